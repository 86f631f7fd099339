import PyProof.Rows.All
import Wide.All
import OpenK.AllK
import Wide.FinOn
import PyProof.EqAt
import PyProof.EqKinds
import PyProof.TupleCall
import HandS.ForMost
import HandS.AnyAll
import HandS.GenOver
import HandS.ForExc
import HandS.ExcInit
import HandS.ClsMeth
import KE.KExcSuper
import HandS.Head0
import HandS.Head1
import HandS.Head2
import HandS.HeadEnd
import HandS.HeadHook1
import HandS.HeadHook2
import HandS.HeadHook3
import HandS.HeadHook4
import HandS.HeadWalk
import HandS.Exc
import HandS.TupAny
import HandS.TupLe
import HandS.Deep
import HandS.Wide
import HandS.WideBits
import HandS.SortInts
import HandS.IsInst
import HandS.Codes
import HandS.More
import HandS.Iter
import HandS.Zip
import KE.GoesMore
import KE.GoesEnum
import HandS.NoneIn
import HandS.ExcOwn
import HandS.TryMany
import HandS.Style
import HandS.NamedTupSort
import KE.KSortTupAny
import HandS.Flow
import PySem.Challenge.RW_oldnews_k26_fine_runs_walked
set_option Elab.async false
set_option linter.all false
set_option maxRecDepth 100000
set_option maxHeartbeats 2000000
/-! any(..), all(..) of a generator expression over anything that a loop walks; the element of any form that gives a bool. -/
namespace GxA
open PySem PySem.Spec PyProof.Rows L2 GxR
theorem over_gx {A : Around} {elt tg iter : Expr} {ifs : List Expr} {scope : Scope} {pos : Pos} {it acc : Value} {env : Env} :
    A.over (.compLoop (.GeneratorExp elt [⟨tg, iter, ifs, 0⟩] scope pos) 0 it acc env) [] = A.deeper env := by
  first
    | rfl
    | (obtain ⟨hd, d, fr, gs, u⟩ := A; simp [Around.over, Around.deeper, marksOver, frameCount, unitsOf, envsOf, guardsOf, pushEnvs, pushGuards, Code.envs, Code.env?, Code.isFrame, Code.guards, Code.isGuard, Code.weight, Code.frames, Code.isCreation, Code.isCaller, Code.cUnits])
theorem over_gs {A : Around} {elt tg iter : Expr} {ifs : List Expr} {scope : Scope} {pos : Pos} {it acc : Value} {env : Env} :
    A.over (.compStart (.GeneratorExp elt [⟨tg, iter, ifs, 0⟩] scope pos) 0 it acc env) [] = A.deeper env := by
  first
    | rfl
    | (obtain ⟨hd, d, fr, gs, u⟩ := A; simp [Around.over, Around.deeper, marksOver, frameCount, unitsOf, envsOf, guardsOf, pushEnvs, pushGuards, Code.envs, Code.env?, Code.isFrame, Code.guards, Code.isGuard, Code.weight, Code.frames, Code.isCreation, Code.isCaller, Code.cUnits])
/-- the generator's slots: its own names empty, the captured ones as they stand in the def -/
def capS (capt : List (Option Nat)) (σ : L2.St) : L2.St := capt.map fun c => match c with
  | none => none
  | some i => (σ[i]?).getD none
/-- the own names forgotten -/
def maskS : List (Option Nat) → L2.St → L2.St
  | none :: cs, _ :: vs => none :: maskS cs vs
  | some _ :: cs, v :: vs => v :: maskS cs vs
  | _, _ => []
structure GOk (N : List Str) (sc scope : Scope) (N' : List Str) (capt : List (Option Nat)) : Prop where
  kind : scope.kind = .function
  co : scope.isCoroutine = false
  cell : ∀ y ∈ scope.names, y.2 ≠ .cell
  dot : scope.names.lookup (".0" : Str) = some NameKind.local
  uniq : ∀ y ∈ scope.names, scope.names.lookup y.1 = some y.2
  free : ∀ y ∈ scope.names, y.2 = .free → sc.names.lookup y.1 = some .cell ∨ sc.names.lookup y.1 = some .free
  len : capt.length = N'.length
  nd : N'.Nodup
  cap : ∀ (j i : Nat) (x : Str), capt[j]? = some (some i) → N'[j]? = some x → N[i]? = some x ∧ scope.names.lookup x = some .free
def gOkB (N : List Str) (sc scope : Scope) (N' : List Str) (capt : List (Option Nat)) : Bool :=
  decide (scope.kind = .function) && !scope.isCoroutine && (scope.names.all fun y => decide (y.2 ≠ .cell) && decide (scope.names.lookup y.1 = some y.2) && (decide (y.2 ≠ .free) || decide (sc.names.lookup y.1 = some .cell) || decide (sc.names.lookup y.1 = some .free)))
    && decide (scope.names.lookup (".0" : Str) = some NameKind.local) && decide (capt.length = N'.length) && decide N'.Nodup
    && ((List.range N'.length).all fun j => match capt[j]?, N'[j]? with
      | some (some i), some x => decide (N[i]? = some x) && decide (scope.names.lookup x = some .free)
      | _, _ => true)
theorem gOk_by {N : List Str} {sc scope : Scope} {N' : List Str} {capt : List (Option Nat)} (h : gOkB N sc scope N' capt = true) : GOk N sc scope N' capt := by
  unfold gOkB at h
  simp only [Bool.and_eq_true, decide_eq_true_eq, Bool.not_eq_true', List.all_eq_true, Bool.or_eq_true] at h
  obtain ⟨⟨⟨⟨⟨⟨h1, h2⟩, h3⟩, h4⟩, h5⟩, h6⟩, h7⟩ := h
  refine ⟨h1, h2, fun y hy => (h3 y hy).1.1, h4, fun y hy => (h3 y hy).1.2, fun y hy e => ?_, h5, h6, fun j i x e1 e2 => ?_⟩
  · rcases (h3 y hy).2 with (z | z) | z
    · exact absurd e z
    · exact .inl z
    · exact .inr z
  · have hj : j < N'.length := (List.getElem?_eq_some_iff.mp e2).1
    have q := h7 j (List.mem_range.mpr hj)
    rw [e1, e2] at q
    simp only [Bool.and_eq_true, decide_eq_true_eq] at q
    exact q
/-- the generator's context -/
abbrev gxCx (X : Cx) (s : Shared) (H : Hp) (N' : List Str) (cenv : Env) (fp : List Addr) : Cx :=
  { X with A := X.A.in1.in1.deeper cenv, N := N', s_0 := s, H_0 := H, env := cenv, outer := X.stack, stack := cenv :: X.stack, ex := fp, fn := fun _ => false, calm := true, pn := [], xe := fun _ _ => False }
section
variable {X : Cx} {pins : List (Addr × Obj)} {σ : L2.St} {H : Hp} {s : Shared}
/-- generators changed, all else kept -/
theorem inv_gens {g' : Array GenState} {d' : Drawn} {t' : Nat} (I : Inv X pins σ H s) (hg : AllBare g') : Inv X pins σ H { s with gens := g', drawn := d', toks := t' } := by
  have J := I.step (h' := s.heap) (H' := H) (g' := g') (d' := d') (t' := t') (ch := []) (fun b hb => absurd hb (by simp)) (fun b o _ _ _ e _ => e) (fun b o _ _ _ e _ => ⟨o.slots, e⟩) (fun _ _ _ _ n => n) (fun b o _ e => ⟨o, e⟩) (fun _ _ e => e) (fun _ _ _ e => e)
    (fun b ps e => ⟨#[], by rw [e]; simp⟩) (fun m hm => hm) I.hok hg
  exact J
theorem inv_gens' {s' : Shared} (I : Inv X pins σ H s) (hh : s'.heap = s.heap) (ho : s'.os = s.os) (hg : AllBare s'.gens) : Inv X pins σ H s' := by
  obtain ⟨hp, g, d, t, o⟩ := s'
  cases hh
  cases ho
  exact inv_gens I hg
theorem capS_get {capt : List (Option Nat)} {j : Nat} {v : V} (h : (capS capt σ)[j]? = some (some v)) : ∃ i, capt[j]? = some (some i) ∧ σ[i]? = some (some v) := by
  unfold capS at h
  rw [List.getElem?_map] at h
  cases hc : capt[j]? with
  | none => rw [hc] at h; cases h
  | some c =>
    rw [hc] at h
    have h := Option.some.inj h
    cases c with
    | none => cases h
    | some i =>
      refine ⟨i, rfl, ?_⟩
      have h : (σ[i]?).getD none = some v := h
      cases hs : σ[i]? with
      | none => rw [hs] at h; cases h
      | some w => rw [hs] at h; exact congrArg some h
theorem maskS_weak : ∀ {capt : List (Option Nat)} {σ2 σ0 : L2.St}, maskS capt σ2 = σ0 → ∀ (j : Nat) (v : V), σ0[j]? = some (some v) → σ2[j]? = some (some v)
  | [], σ2, σ0, h, j, v, e => by
    cases σ2 <;> (unfold maskS at h; subst h; simp at e)
  | none :: cs, [], σ0, h, j, v, e => by
    unfold maskS at h; subst h; simp at e
  | some _ :: cs, [], σ0, h, j, v, e => by
    unfold maskS at h; subst h; simp at e
  | none :: cs, w :: σ2, σ0, h, j, v, e => by
    unfold maskS at h; subst h
    cases j with
    | zero => simp at e
    | succ j => exact maskS_weak (capt := cs) (σ2 := σ2) rfl j v (by simpa using e)
  | some _ :: cs, w :: σ2, σ0, h, j, v, e => by
    unfold maskS at h; subst h
    cases j with
    | zero => simpa using e
    | succ j => exact maskS_weak (capt := cs) (σ2 := σ2) rfl j v (by simpa using e)

/-- the generator's frame stands, its object is laid: its context's word holds -/
theorem gx_start {scope : Scope} {N' : List Str} {capt : List (Option Nat)} {fp : List Addr} {code it : Value} {bi : Addr} {h' : Heap} {go : Obj} {gs : Array GenState} {tk : Nat}
    (I : Inv X pins σ H s) (hc : X.A.handled = none) (ok : GOk X.N X.env.scope scope N' capt) (hfp : ∀ b ∈ fp, FpOk X pins H b ∧ b < s.heap.objs.size) (hbi : bi = builtinsNs)
    (hn : h'.Ns s.heap.objs.size (fun y => if y = (".0" : Str) then some it else none)) (hs : Heap.SameBut s.heap.objs.size (s.heap.push { cls := .type "frame", data := .dict #[] }) h') (hg : AllBare gs) (hgo : ∀ v, go.data ≠ .cell v) (hnf : go.isFreed = false) :
    Inv (gxCx X s H N' (genEnv scope (cloFrom X.env.cells scope.names []) s.heap.objs.size code bi X.env) fp) [(h'.objs.size, go)] (capS capt σ) H { s with gens := gs, toks := tk, heap := h'.push go } := by
  have hfree : ∀ y ∈ scope.names, y.2 = .free → ∃ c, X.env.cells.lookup y.1 = some c := fun y hy e => by
    rcases ok.free y hy e with k | k
    · exact I.ok.has _ (.inl k)
    · exact I.ok.has _ (.inr k)
  have hsz : h'.objs.size = s.heap.objs.size + 1 := by rw [hs.1, Heap.size_push]
  have kp0 : ∀ b o, s.heap.get? b = some o → h'.get? b = some o := fun b o e => hs.extBut b o (Nat.ne_of_lt (Heap.lt_size e)) (Heap.get?_push_of_some _ e)
  have kp : ∀ b o, s.heap.get? b = some o → (h'.push go).get? b = some o := fun b o e => Heap.get?_push_of_some _ (kp0 b o e)
  generalize hcenv : genEnv scope (cloFrom X.env.cells scope.names []) s.heap.objs.size code bi X.env = cenv
  have hL : cenv.locals = s.heap.objs.size := by rw [← hcenv]; rfl
  have hcl : cenv.cells = cloFrom X.env.cells scope.names [] := by rw [← hcenv]; rfl
  have hsc : cenv.scope = scope := by rw [← hcenv]; rfl
  have hfrm : cenv.frame = some cenv.locals := by rw [← hcenv]; rfl
  have cm : ∀ {y c}, (y, c) ∈ cloFrom X.env.cells scope.names [] → X.env.cells.lookup y = some c ∧ c < s.heap.objs.size := fun {y c} hm => by
    rcases cloFrom_mem hm with hm | ⟨h1, rfl⟩
    · cases hm
    · obtain ⟨c, hc⟩ := hfree _ h1 rfl
      rw [hc]
      obtain ⟨w, z⟩ := I.cell _ _ hc
      exact ⟨rfl, z.lt⟩
  have mem : ∀ {y c}, cenv.cells.lookup y = some c → X.env.cells.lookup y = some c ∧ c < s.heap.objs.size := fun {y c} e => by
    rw [hcl] at e
    exact cm (PySem.mem_of_lookup e)
  have look : ∀ {y}, scope.names.lookup y = some .free → ∃ c, cenv.cells.lookup y = some c ∧ X.env.cells.lookup y = some c := fun {y} hl => by
    have hy : (y, NameKind.free) ∈ scope.names := PySem.mem_of_lookup hl
    obtain ⟨c', e'⟩ := mem_lookup (cloFrom_has (cells := X.env.cells) (acc := []) hy)
    rw [← hcl] at e'
    exact ⟨c', e', (mem e').1⟩
  have okB : (gxCx X s H N' cenv fp).Ok := by
    refine ⟨I.ok.mod, by show cenv.scope.kind = _; rw [hsc]; exact ok.kind, by show cenv.globals = _; rw [← hcenv]; exact I.ok.glob, by show cenv.builtins = _; rw [← hcenv]; exact hbi, by show s.heap.objs.size ≤ cenv.locals; rw [hL]; exact Nat.le_refl _,
      fun y z c e1 e2 => ?_, fun y hy => ?_, fun y c z e => (by cases z), fun _ => hc, ?_, .inr ⟨rfl, hfrm⟩, fun b hb => ⟨?_, fun y c e z => ?_⟩, I.bs, Nat.le_trans I.ok.bsz I.sz, fun b o e hb => ?_, fun b hb z => ?_, I.stack, I.stkFree⟩
    · exact I.ok.inj y z c (mem e1).1 (mem e2).1
    · show ∃ c, cenv.cells.lookup y = some c
      have hy : scope.names.lookup y = some .cell ∨ scope.names.lookup y = some .free := by
        have hy : cenv.kindOf y = some .cell ∨ cenv.kindOf y = some .free := hy
        unfold Env.kindOf at hy
        rw [hsc] at hy
        exact hy
      rcases hy with hy | hy
      · exact absurd rfl (ok.cell _ (PySem.mem_of_lookup hy))
      · obtain ⟨c, h1, _⟩ := look hy
        exact ⟨c, h1⟩
    · show (X.A.in1.in1.deeper cenv).frames = some (cenv :: X.stack)
      exact Around.frames_deeper (show X.A.frames = some X.stack from I.ok.frames)
    · show b ≠ cenv.locals
      rw [hL]; exact Nat.ne_of_lt (hfp b hb).2
    · exact (hfp b hb).1.2.2.2.2.1 y c (mem e).1 z
    · rcases (hfp b hb).1.2.2.2.1 with z | z
      · exact I.ok.noex b o e z
      · exact absurd (Nat.lt_of_lt_of_le (Heap.lt_size e) (Nat.le_trans I.ok.bsz z)) (Nat.lt_irrefl _)
    · rcases List.mem_cons.mp (I.stkSub b z) with z | z
      · exact (hfp b hb).1.2.1 z
      · exact (hfp b hb).1.2.2.1 z
  have nP : H h'.objs.size = none := I.hok.fresh (by rw [hsz]; exact Nat.le_succ _)
  refine ⟨okB, rfl, hg, Un.kept kp, ⟨_, by show Heap.Ns _ cenv.locals _; rw [hL]; exact hn.push _, fun i y av e1 e2 e3 => ?_⟩, fun y c e => ?_, ?_, fun y c e => ?_, fun p hp => ?_, I.hok.kept kp, ?_⟩
  · obtain ⟨j, c1, c2⟩ := capS_get e2
    obtain ⟨q1, q2⟩ := ok.cap i j y c1 e1
    obtain ⟨m, hm, hl⟩ := I.loc
    have hvis : Vis X.env.scope y := (ok.free _ (PySem.mem_of_lookup q2) rfl).elim (fun k => .inr (.inl k)) (fun k => .inr (.inr k))
    obtain ⟨w, r, q⟩ := hl j y av q1 c2 hvis
    refine ⟨w, r, .inr ⟨.inr (by show cenv.scope.names.lookup y = _; rw [hsc]; exact q2), ?_⟩⟩
    obtain ⟨c, h1, h2⟩ := look q2
    rcases q with ⟨k, _⟩ | ⟨_, c', e', z⟩
    · have k : X.env.scope.names.lookup y = some .local := k
      rcases ok.free _ (PySem.mem_of_lookup q2) rfl with k' | k' <;> rw [show X.env.scope.names.lookup y = _ from k'] at k <;> cases k
    · rw [h2] at e'; cases e'
      exact ⟨c, h1, z.keeps kp⟩
  · obtain ⟨h1, _⟩ := mem e
    obtain ⟨w, z⟩ := I.cell y c h1
    exact ⟨w, z.keeps kp⟩
  · show H cenv.locals = none
    rw [hL]; exact I.hok.fresh (Nat.le_refl _)
  · exact I.freeC y c (mem e).1
  · have hp : p = (h'.objs.size, go) := by
      have hp : p ∈ ([] : List (Addr × Obj)) ++ [(h'.objs.size, go)] := hp
      simpa using hp
    subst hp
    refine ⟨Heap.get?_push_size _ hnf, nP, ?_, fun z => ?_, hgo⟩
    · show h'.objs.size ≠ cenv.locals
      rw [hL, hsz]
      exact Nat.succ_ne_self _
    · have z : h'.objs.size ∈ frs X.stack := z
      obtain ⟨_, o, ho, _⟩ := I.stack.mem z
      have := Heap.lt_size ho
      rw [hsz] at this
      exact absurd this (Nat.not_lt.mpr (Nat.le_succ _))
  · show (capS capt σ).length = N'.length
    unfold capS
    rw [List.length_map]
    exact ok.len
end
end GxA
set_option Elab.async false
set_option linter.all false
set_option maxRecDepth 100000
set_option maxHeartbeats 2000000
namespace GxA
open PySem PySem.Spec PyProof.Rows L2 GxR
/-- the item of the generator's loop: what a turn of the reading asks -/
def GTurn (J : It) (g : TG) (te : TE) (capt : List (Option Nat)) (σ0 : L2.St) (b0 : Bool) (W : Nat → Nat → Hp → Prop) (QT QF : Hp → Prop) (i m : Nat) (H : Hp) : Prop :=
  (J.stop i H ∧ QT H) ∨ (J.go i H ∧ ∃ Nx : Hp → Prop, (∀ H', Nx H' → ∃ m', m' < m ∧ W (i + 1) m' H') ∧ ∀ x H', J.yld i H x H' → g x σ0 H' fun σ2 H2 => maskS capt σ2 = σ0 ∧ σ2.length = σ0.length ∧ te σ2 H2 fun v H3 => ∃ b, v = .bl b ∧ if b = b0 then Nx H3 else QF H3)
section
variable {P : Program} {w : World} {K : PySem.W.Frag}
/-- asleep or ahead of a turn -/
def GW (Y : Cx) (pg : Addr × Obj) (g : Nat) (σ0 : L2.St) (fp : List Addr) (tn : Nat → Heap → Prop) (W : Nat → Nat → Hp → Prop) (i m : Nat) (s : Shared) : Prop :=
  ∃ H', Inv Y [pg] σ0 H' s ∧ tn i s.heap ∧ (∀ b ∈ fp, H' b = none) ∧ W i m H' ∧ g < s.gens.size
/-- may be woken here -/
structure Woke (g : Nat) (s s' : Shared) : Prop where
  heap : s'.heap = s.heap
  os : s'.os = s.os
  bare : AllBare s'.gens
  size : g < s'.gens.size
/-- the end, told in the generator's context -/
def GEnd0 (Y : Cx) (pg : Addr × Obj) (g : Nat) (σ0 : L2.St) (Q : Hp → Prop) (s : Shared) : Prop := ∃ H', Inv Y [pg] σ0 H' s ∧ g < s.gens.size ∧ Q H'
def gP (Y : Cx) (pg : Addr × Obj) (g : Nat) (σ0 : L2.St) (QT : Hp → Prop) : Nat → Shared → Shared → Prop := fun _ _ s1 => GEnd0 Y pg g σ0 QT s1
def gY (Y : Cx) (pg : Addr × Obj) (g : Nat) (σ0 : L2.St) (fp : List Addr) (tn : Nat → Heap → Prop) (W : Nat → Nat → Hp → Prop) (b0 : Bool) (QF : Hp → Prop) : Protocol := fun n s₀ v s1 kap =>
  ∃ b, v = .bool b ∧ if b = b0 then (∃ i m, m < n ∧ GW Y pg g σ0 fp tn W i m s1) ∧ ∀ s', Woke g s1 s' → kap (.send .none) s' else GEnd0 Y pg g σ0 QF s1
theorem GW.woke {Y : Cx} {pg : Addr × Obj} {g : Nat} {σ0 : L2.St} {fp : List Addr} {tn : Nat → Heap → Prop} {W : Nat → Nat → Hp → Prop} {i m : Nat} {s s' : Shared} (h : GW Y pg g σ0 fp tn W i m s) (z : Woke g s s') : GW Y pg g σ0 fp tn W i m s' := by
  obtain ⟨H', I, st, nf, w, sz⟩ := h
  exact ⟨H', inv_gens' I z.heap z.os z.bare, by rw [z.heap]; exact st, nf, w, z.size⟩
theorem seg_gx {A : Around} {Y : Cx} {pg : Addr × Obj} {g : Nat} {σ0 : L2.St} {fp : List Addr} {tn : Nat → Heap → Prop} {W : Nat → Nat → Hp → Prop} {b0 : Bool} {QT QF : Hp → Prop} {J : It} {gt : TG} {te : TE} {capt : List (Option Nat)}
    {elt tg iter : Expr} {scope : Scope} {pos : Pos} {it : Addr} (hA : Y.A = A.deeper Y.env) (hxe : Y.xe = fun _ _ => False) (hco : Y.env.scope.isCoroutine = false) (hcalm : Y.calm = true) (hY : fp = Y.ex) (hpn : Y.pn = []) (hpg : pg.1 ∉ fp)
    (T : Turn Y.prog Y.w Y.K tg J fp it tn) (hg : PG Y tg gt) (he : PE Y elt te) (turn : ∀ i m H, W i m H → GTurn J gt te capt σ0 b0 W QT QF i m H) :
    ∀ (m i n : Nat) (s₀ s : Shared), m < n → GW Y pg g σ0 fp tn W i m s →
      Seg (model Y.prog Y.w) A (fun n s₀ r s₁ => r = .ok .next ∧ gP Y pg g σ0 QT n s₀ s₁) (gY Y pg g σ0 fp tn W b0 QF) n s₀ (.compLoop (.GeneratorExp elt [⟨tg, iter, [], 0⟩] scope pos) 0 (.ref it) .none Y.env)
        ((model Y.prog Y.w).den (.compLoop (.GeneratorExp elt [⟨tg, iter, [], 0⟩] scope pos) 0 (.ref it) .none Y.env)) [] s := by
  have hov : A.over (.compLoop (.GeneratorExp elt [⟨tg, iter, [], 0⟩] scope pos) 0 (.ref it) .none Y.env) [] = Y.A := over_gx.trans hA.symm
  have stat : ∀ {σ' : L2.St} {H' : Hp} {s' : Shared}, Inv Y [pg] σ' H' s' → (∀ b ∈ fp, H' b = none) → ∀ b ∈ fp, FpOk Y [pg] H' b := fun {σ' H' s'} I' hn b hb => by
    have hb' : b ∈ Y.ex := by rw [← hY]; exact hb
    refine ⟨hn b hb, (I'.ok.exf b hb').1, I'.ok.exfs b hb', .inl hb', fun x c e => (I'.ok.exf b hb').2 x c e, fun p hp => ?_⟩
    rw [hpn] at hp
    have hp : p = pg := by simpa using hp
    rw [hp]
    intro e
    exact hpg (by rw [e]; exact hb)
  intro m
  induction m using Nat.strongRecOn with
  | ind m ih =>
    intro i n s₀ s hm hw
    obtain ⟨H1, I1, st1, nf1, w1, sz1⟩ := hw
    show Seg _ A _ _ _ s₀ _ ((compTurn (.GeneratorExp elt [⟨tg, iter, [], 0⟩] scope pos) 0 (.ref it) .none Y.env).onRaise (PySem.leaving Y.env)) [] s
    rw [compTurn_gen, Sem.onRaise_eq_wrap]
    refine seg_bind_wrap (wpAny_standAt ?_)
    rcases turn i m H1 w1 with ⟨stop, qq⟩ | ⟨go, Nx, hNx, step⟩
    · refine seg_bind_wrap ?_
      rw [hov]
      have td := T.done Y rfl rfl rfl hcalm i [pg] s σ0 H1 (fun _ _ => False) I1 (stat I1 nf1) st1 stop
      refine thnF (GenW.wpAny_gsz (Nat.le_refl s.gens.size) (wpAny_mono td (fun r s' hr hz => (⟨hr, hz⟩ : (r = none ∧ Inv Y [pg] σ0 H1 s') ∧ s.gens.size ≤ s'.gens.size)) fun _ _ z _ => z)) fun r s6 ⟨⟨hr, I6⟩, hz⟩ => ?_
      subst hr
      exact seg_end (.ok .next) ⟨rfl, H1, I6, Nat.lt_of_lt_of_le sz1 hz, qq⟩
    · refine seg_bind_wrap ?_
      rw [hov]
      have ti := T.item Y rfl rfl rfl hcalm i [pg] s σ0 H1 (fun _ _ => False) I1 (stat I1 nf1) st1 go
      refine thnF (GenW.wpAny_gsz (Nat.le_refl s.gens.size) (wpAny_mono ti (fun r s' hr hz => (⟨hr, hz⟩ : (∃ u, r = some u ∧ _) ∧ s.gens.size ≤ s'.gens.size)) fun _ _ z _ => z)) fun r s6 ⟨⟨u, hr, h6⟩, hz6⟩ => ?_
      subst hr
      refine seg_bind_wrap ?_
      rw [hov]
      refine thnF (GenW.wpAny_gsz (Nat.le_refl s6.gens.size) (wpAny_mono h6 (fun _ s' hr hz => (⟨hr, hz⟩ : (∃ x H', _) ∧ s6.gens.size ≤ s'.gens.size)) fun _ _ z _ => z)) fun _ s7 ⟨⟨x, H7, I7, r7, y7, st7, n7⟩, hz7⟩ => ?_
      have I7' := I7.pinned (stat I7 n7) (T.obj _ _ st7)
      refine seg_bind_wrap ?_
      rw [hov]
      have pg8 := hg.run _ s7 _ H7 x u _ I7' r7 (step x H7 y7)
      rw [hxe] at pg8
      refine thnF (GenW.wpAny_gsz (Nat.le_refl s7.gens.size) (wpAny_mono pg8 (fun _ s' hr hz => (⟨hr, hz⟩ : (∃ σ' H', _) ∧ s7.gens.size ≤ s'.gens.size)) fun _ _ z _ => z)) fun _ s8 ⟨⟨σ8, H8, I8, hw8, hl8, q8⟩, hz8⟩ => ?_
      refine seg_bind_wrap (wpAny_tests_nil ?_)
      simp only [if_true]
      have hy : ∀ v, yieldOut Y.env v = yieldValue v := fun v => by simp only [yieldOut, hco, Bool.false_eq_true, if_false]
      simp only [hy]
      rw [Sem.bind_eq_wrap', Sem.bind_eq_wrap', Sem.wrap_wrap, Sem.wrap_wrap]
      refine seg_wrap ?_
      rw [hov]
      have pe9 := he.run _ s8 σ8 H8 _ I8 q8
      rw [hxe] at pe9
      refine thnF (GenW.wpAny_gsz (Nat.le_refl s8.gens.size) (wpAny_mono pe9 (fun _ s' hr hz => (⟨hr, hz⟩ : (∃ v H', _) ∧ s8.gens.size ≤ s'.gens.size)) fun _ _ z _ => z)) fun yv s9 ⟨⟨v9, H9, I9, r9, b, hb, q9⟩, hz9⟩ => ?_
      subst hb
      obtain rfl : yv = Value.bool b := r9
      have sz9 : g < s9.gens.size := by omega
      have pin' : ∀ b ∈ fp, ∀ o, s7.heap.get? b = some o → s9.heap.get? b = some o ∧ H9 b = none := fun b hb o e =>
        let z := I9.pin (b, o) (List.mem_append_right _ (List.mem_append_right _ (mem_pinsAt hb e)))
        ⟨z.1, z.2.1⟩
      have J9 : Inv Y [pg] σ0 H9 s9 := (I9.unpinned (pins := [pg])).weak hl8.symm (maskS_weak hw8)
      obtain ⟨n, rfl⟩ : ∃ k, n = k + 1 := ⟨n - 1, by omega⟩
      refine seg_at (seg_yield rfl rfl rfl ⟨b, rfl, ?_⟩)
      by_cases hb0 : b = b0
      · rw [if_pos hb0] at q9 ⊢
        obtain ⟨m', hm', w'⟩ := hNx H9 q9
        have gw : GW Y pg g σ0 fp tn W (i + 1) m' s9 := by
          refine ⟨H9, J9, T.keep _ _ _ st7 fun b hb o e => (pin' b hb o e).1, fun b hb => ?_, w', sz9⟩
          obtain ⟨o, e, _⟩ := T.obj _ _ st7 b hb
          exact (pin' b hb o e).2
        refine ⟨⟨i + 1, m', by omega, gw⟩, fun s'' z => ?_⟩
        exact seg_again rfl (ih m' hm' (i + 1) n s'' s'' (by omega) (gw.woke z))
      · rw [if_neg hb0] at q9 ⊢
        exact ⟨H9, J9, sz9, q9⟩
theorem seg_gxStart {A : Around} {Y : Cx} {pg : Addr × Obj} {g : Nat} {σ0 : L2.St} {fp : List Addr} {tn : Nat → Heap → Prop} {W : Nat → Nat → Hp → Prop} {b0 : Bool} {QT QF : Hp → Prop} {J : It} {gt : TG} {te : TE} {capt : List (Option Nat)}
    {elt tg iter : Expr} {scope : Scope} {pos : Pos} {it : Addr} (hA : Y.A = A.deeper Y.env) (hxe : Y.xe = fun _ _ => False) (hco : Y.env.scope.isCoroutine = false) (hcalm : Y.calm = true) (hY : fp = Y.ex) (hpn : Y.pn = []) (hpg : pg.1 ∉ fp)
    (T : Turn Y.prog Y.w Y.K tg J fp it tn) (hg : PG Y tg gt) (he : PE Y elt te) (turn : ∀ i m H, W i m H → GTurn J gt te capt σ0 b0 W QT QF i m H) (m n : Nat) (s₀ s : Shared) (hm : m < n) (hw : GW Y pg g σ0 fp tn W 0 m s) :
    Seg (model Y.prog Y.w) A (fun n s₀ r s₁ => r = .ok .next ∧ gP Y pg g σ0 QT n s₀ s₁) (gY Y pg g σ0 fp tn W b0 QF) n s₀ (.compStart (.GeneratorExp elt [⟨tg, iter, [], 0⟩] scope pos) 0 (.ref it) .none Y.env)
      ((model Y.prog Y.w).den (.compStart (.GeneratorExp elt [⟨tg, iter, [], 0⟩] scope pos) 0 (.ref it) .none Y.env)) [] s := by
  have loop := seg_gx (g := g) (iter := iter) (scope := scope) (pos := pos) hA hxe hco hcalm hY hpn hpg T hg he turn m 0 n s₀ s hm hw
  obtain ⟨H1, I1, st1, nf1, w1, sz1⟩ := hw
  show Seg _ A _ _ _ s₀ _ ((compStart (.GeneratorExp elt [⟨tg, iter, [], 0⟩] scope pos) 0 (.ref it) .none Y.env).onRaise (PySem.leaving Y.env)) [] s
  unfold compStart
  rw [Sem.onRaise_eq_wrap]
  show Seg _ A _ _ _ s₀ _ ((ask >>= _).wrap _ _ _ _) [] s
  refine seg_bind_wrap (wpAny_askSetting ?_)
  split
  · exact seg_again rfl loop
  · first
      | exact seg_bind_wrap (wpAny_rule (seg_bind_wrap (wpAny_standAt (seg_bind_wrap (T.self _ 0 s _ _ st1 (seg_again rfl loop))))))
      | (refine seg_bind_wrap (wpAny_rule ?_); show Seg _ A _ _ _ s₀ _ ((standAt iter.pos >>= _).wrap _ _ _ _) [] s; exact seg_bind_wrap (wpAny_standAt (seg_bind_wrap (T.self _ 0 s _ _ st1 (seg_again rfl loop)))))
end
end GxA
set_option Elab.async false
set_option linter.all false
set_option maxRecDepth 100000
set_option maxHeartbeats 2000000
namespace GxA
open PySem PySem.Spec PyProof.Rows L2 GxR
/-- the generator a as its consumer finds it -/
def GJ (M : Model) (A : Around) (R : GenEnd) (Yp : Protocol) (a : Addr) (g n : Nat) (s : Shared) : Prop :=
  ∃ gs, s.gens[g]? = some gs ∧ s.heap.IsGen a g ∧ s.heap.NoLimit ∧ AllBare s.gens ∧ ∀ s' : Shared, Woke g s s' → gs.Goes M A R Yp n (.send .none) s'
theorem size_setGen (s : Shared) (g : Nat) (x : GenState) : (s.setGen g x).gens.size = s.gens.size := by simp [Shared.setGen]
theorem bare_setGen {s : Shared} {g : Nat} {x : GenState} (h : AllBare s.gens) (hx : x.bare = true) : AllBare (s.setGen g x).gens := by
  intro y hy
  have hy : y ∈ s.gens.setIfInBounds g x := hy
  obtain ⟨i, hi, e⟩ := Array.mem_iff_getElem.mp hy
  have hi' : i < s.gens.size := by simpa using hi
  rw [Array.getElem_setIfInBounds hi'] at e
  split at e
  · rw [← e]; exact hx
  · rw [← e]; exact h _ (Array.getElem_mem _)
section
variable {P : Program} {w : World}
/-- all: the loop; T, F: what holds at an end with True, with False -/
theorem all_loop {A : Around} {R : Result → Shared → Prop} {a : Addr} {g : Nat} {Yp : Protocol} {Pp : Nat → Shared → Shared → Prop} {Tq Fq : Shared → Prop} (hh : A.handled = none) (hroom : A.depth < recursionLimit)
    (hY : ∀ n s₀ v s₁ kap, Yp n s₀ v s₁ kap → ∃ b, v = .bool b ∧ ∀ gs' : GenState, gs'.bare = true → if b = true then (∀ s', Woke g (s₁.setGen g gs') s' → kap (.send .none) s') ∧ (g < s₁.gens.size ∧ s₁.heap.IsGen a g ∧ s₁.heap.NoLimit ∧ AllBare s₁.gens) else Fq (s₁.setGen g gs'))
    (hP : ∀ n s₀ s₁ h', Pp n s₀ s₁ → (∀ b o, s₁.heap.get? b = some o → h'.get? b = some o) → Tq { s₁.setGen g .finished with heap := h' })
    (hT : ∀ s', Tq s' → R (.ok (.ret (.bool true))) s') (hF : ∀ s', Fq s' → R (.ok (.ret (.bool false))) s') :
    ∀ (n : Nat) (s : Shared), GJ (model P w) A.in1.in1 (fun n s₀ r s₁ => r = .ok .next ∧ Pp n s₀ s₁) Yp a g n s → codeAny (model P w) A (.builtin "all.loop" ⟨[.ref a], []⟩) R s := by
  intro n
  induction n with
  | zero =>
    intro s ⟨gs, h1, h2, h3, h4, h5⟩
    have hlt : g < s.gens.size := by
      rcases Nat.lt_or_ge g s.gens.size with h' | h'
      · exact h'
      · rw [Array.getElem?_eq_none h'] at h1; cases h1
    refine codeAny_builtin F.entry_all_loop ?_
    rw [Around.under_plainId F.plain_all_loop _]
    show wpAny _ A.in1 (pyNext (.ref a) >>= _) _ _ s
    refine wpAny_bind ?_
    refine wpAny_pyNext_genexpQ (A := A.in1) (P := Pp) (Y := Yp) (n := 0) hh h3 hroom h2 h1 (h5 _ ⟨rfl, rfl, bare_setGen h4 rfl, by rw [size_setGen]; exact hlt⟩) (fun v s₁ gs' hb hv => ?_) (fun s₁ hp h' hk => ?_)
    · obtain ⟨b, rfl, hv0⟩ := hY _ _ _ _ _ hv
      have hv := hv0 gs' hb
      refine wpAny_bind (wpAny_holding (wpAny_truthy_bool ?_))
      refine wpAny_bind (wpAny_letGo ?_)
      cases b with
      | true =>
        rw [if_pos rfl] at hv
        exact (hv.1 (s₁.setGen g gs') ⟨rfl, rfl, bare_setGen hv.2.2.2.2 hb, by rw [size_setGen]; exact hv.2.1⟩).elim
      | false =>
        simp only [Bool.false_eq_true, if_false] at hv ⊢
        refine wpAny_bind (wpAny_rule (wpAny_pure ?_))
        exact hF _ hv
    · refine wpAny_bind (wpAny_rule (wpAny_pure ?_))
      exact hT _ (hP _ _ _ _ hp hk)
  | succ n ih =>
    intro s ⟨gs, h1, h2, h3, h4, h5⟩
    have hlt : g < s.gens.size := by
      rcases Nat.lt_or_ge g s.gens.size with h' | h'
      · exact h'
      · rw [Array.getElem?_eq_none h'] at h1; cases h1
    refine codeAny_builtin F.entry_all_loop ?_
    rw [Around.under_plainId F.plain_all_loop _]
    show wpAny _ A.in1 (pyNext (.ref a) >>= _) _ _ s
    refine wpAny_bind ?_
    refine wpAny_pyNext_genexpQ (A := A.in1) (P := Pp) (Y := Yp) (n := n + 1) hh h3 hroom h2 h1 (h5 _ ⟨rfl, rfl, bare_setGen h4 rfl, by rw [size_setGen]; exact hlt⟩) (fun v s₁ gs' hb hv => ?_) (fun s₁ hp h' hk => ?_)
    · obtain ⟨b, rfl, hv0⟩ := hY _ _ _ _ _ hv
      have hv := hv0 gs' hb
      refine wpAny_bind (wpAny_holding (wpAny_truthy_bool ?_))
      refine wpAny_bind (wpAny_letGo ?_)
      cases b with
      | true =>
        rw [if_pos rfl] at hv
        simp only [if_true]
        obtain ⟨hk, hz, hgen, hlim, hbr⟩ := hv
        refine wpAny_pure ⟨plainId_quiet F.plain_all_loop _, ih _ ⟨gs', ?_, hgen, hlim, bare_setGen hbr hb, hk⟩⟩
        show (s₁.gens.setIfInBounds g gs')[g]? = some gs'
        simp [hz]
      | false =>
        simp only [Bool.false_eq_true, if_false] at hv ⊢
        refine wpAny_bind (wpAny_rule (wpAny_pure ?_))
        exact hF _ hv
    · refine wpAny_bind (wpAny_rule (wpAny_pure ?_))
      exact hT _ (hP _ _ _ _ hp hk)
theorem any_loop {A : Around} {R : Result → Shared → Prop} {a : Addr} {g : Nat} {Yp : Protocol} {Pp : Nat → Shared → Shared → Prop} {Tq Fq : Shared → Prop} (hh : A.handled = none) (hroom : A.depth < recursionLimit)
    (hY : ∀ n s₀ v s₁ kap, Yp n s₀ v s₁ kap → ∃ b, v = .bool b ∧ ∀ gs' : GenState, gs'.bare = true → if b = false then (∀ s', Woke g (s₁.setGen g gs') s' → kap (.send .none) s') ∧ (g < s₁.gens.size ∧ s₁.heap.IsGen a g ∧ s₁.heap.NoLimit ∧ AllBare s₁.gens) else Fq (s₁.setGen g gs'))
    (hP : ∀ n s₀ s₁ h', Pp n s₀ s₁ → (∀ b o, s₁.heap.get? b = some o → h'.get? b = some o) → Tq { s₁.setGen g .finished with heap := h' })
    (hT : ∀ s', Tq s' → R (.ok (.ret (.bool false))) s') (hF : ∀ s', Fq s' → R (.ok (.ret (.bool true))) s') :
    ∀ (n : Nat) (s : Shared), GJ (model P w) A.in1.in1 (fun n s₀ r s₁ => r = .ok .next ∧ Pp n s₀ s₁) Yp a g n s → codeAny (model P w) A (.builtin "any.loop" ⟨[.ref a], []⟩) R s := by
  intro n
  induction n with
  | zero =>
    intro s ⟨gs, h1, h2, h3, h4, h5⟩
    have hlt : g < s.gens.size := by
      rcases Nat.lt_or_ge g s.gens.size with h' | h'
      · exact h'
      · rw [Array.getElem?_eq_none h'] at h1; cases h1
    refine codeAny_builtin F.entry_any_loop ?_
    rw [Around.under_plainId F.plain_any_loop _]
    show wpAny _ A.in1 (pyNext (.ref a) >>= _) _ _ s
    refine wpAny_bind ?_
    refine wpAny_pyNext_genexpQ (A := A.in1) (P := Pp) (Y := Yp) (n := 0) hh h3 hroom h2 h1 (h5 _ ⟨rfl, rfl, bare_setGen h4 rfl, by rw [size_setGen]; exact hlt⟩) (fun v s₁ gs' hb hv => ?_) (fun s₁ hp h' hk => ?_)
    · obtain ⟨b, rfl, hv0⟩ := hY _ _ _ _ _ hv
      have hv := hv0 gs' hb
      refine wpAny_bind (wpAny_holding (wpAny_truthy_bool ?_))
      refine wpAny_bind (wpAny_letGo ?_)
      cases b with
      | false =>
        rw [if_pos rfl] at hv
        exact (hv.1 (s₁.setGen g gs') ⟨rfl, rfl, bare_setGen hv.2.2.2.2 hb, by rw [size_setGen]; exact hv.2.1⟩).elim
      | true =>
        simp only [Bool.true_eq_false, if_false, if_true] at hv ⊢
        refine wpAny_bind (wpAny_rule (wpAny_pure ?_))
        exact hF _ hv
    · refine wpAny_bind (wpAny_rule (wpAny_pure ?_))
      exact hT _ (hP _ _ _ _ hp hk)
  | succ n ih =>
    intro s ⟨gs, h1, h2, h3, h4, h5⟩
    have hlt : g < s.gens.size := by
      rcases Nat.lt_or_ge g s.gens.size with h' | h'
      · exact h'
      · rw [Array.getElem?_eq_none h'] at h1; cases h1
    refine codeAny_builtin F.entry_any_loop ?_
    rw [Around.under_plainId F.plain_any_loop _]
    show wpAny _ A.in1 (pyNext (.ref a) >>= _) _ _ s
    refine wpAny_bind ?_
    refine wpAny_pyNext_genexpQ (A := A.in1) (P := Pp) (Y := Yp) (n := n + 1) hh h3 hroom h2 h1 (h5 _ ⟨rfl, rfl, bare_setGen h4 rfl, by rw [size_setGen]; exact hlt⟩) (fun v s₁ gs' hb hv => ?_) (fun s₁ hp h' hk => ?_)
    · obtain ⟨b, rfl, hv0⟩ := hY _ _ _ _ _ hv
      have hv := hv0 gs' hb
      refine wpAny_bind (wpAny_holding (wpAny_truthy_bool ?_))
      refine wpAny_bind (wpAny_letGo ?_)
      cases b with
      | false =>
        rw [if_pos rfl] at hv
        simp only [Bool.false_eq_true, if_false]
        obtain ⟨hk, hz, hgen, hlim, hbr⟩ := hv
        refine wpAny_pure ⟨plainId_quiet F.plain_any_loop _, ih _ ⟨gs', ?_, hgen, hlim, bare_setGen hbr hb, hk⟩⟩
        show (s₁.gens.setIfInBounds g gs')[g]? = some gs'
        simp [hz]
      | true =>
        simp only [Bool.true_eq_false, if_false, if_true] at hv ⊢
        refine wpAny_bind (wpAny_rule (wpAny_pure ?_))
        exact hF _ hv
    · refine wpAny_bind (wpAny_rule (wpAny_pure ?_))
      exact hT _ (hP _ _ _ _ hp hk)
end
section
variable {X : Cx}
/-- the generator expression made: what its consumer finds -/
def GMk (X : Cx) (pins : List (Addr × Obj)) (σ : L2.St) (b0 : Bool) (Q : VK) (u : Value) (s5 : Shared) : Prop :=
  ∃ (a : Addr) (g n : Nat) (Yp : Protocol) (Pp : Nat → Shared → Shared → Prop), u = .ref a ∧ s5.heap.IsGen a g ∧ GJ (model X.prog X.w) X.A.in1.in1 (fun n s₀ r s₁ => r = .ok .next ∧ Pp n s₀ s₁) Yp a g n s5 ∧
    (∀ n s₀ v s₁ kap, Yp n s₀ v s₁ kap → ∃ b, v = .bool b ∧ ∀ gs' : GenState, gs'.bare = true → if b = b0 then (∀ s', Woke g (s₁.setGen g gs') s' → kap (.send .none) s') ∧ (g < s₁.gens.size ∧ s₁.heap.IsGen a g ∧ s₁.heap.NoLimit ∧ AllBare s₁.gens) else ∃ H', Inv X pins σ H' (s₁.setGen g gs') ∧ Q (.bl (!b0)) H') ∧
    ∀ n s₀ s₁ h', Pp n s₀ s₁ → (∀ b o, s₁.heap.get? b = some o → h'.get? b = some o) → ∃ H', Inv X pins σ H' { s₁.setGen g .finished with heap := h' } ∧ Q (.bl b0) H'
/-- any(elt for tg in iter) (b0 = false), all(..) (b0 = true): P the def's table; capt: the generator's slots (own: none; captured: the def's slot) -/
def tAG (P : Addr) (b0 : Bool) (wi : TI) (g : TG) (te : TE) (capt : List (Option Nat)) : TE := fun σ H Q => wi σ H fun J H1 => TabG H1 P ∧ ∀ H2, Tabbed P H1 H2 → ∃ W : Nat → Nat → Hp → Prop, (∃ m, W 0 m H2) ∧ ∀ i m H, W i m H →
  GTurn J g te capt (capS capt σ) b0 W (fun H => Q (.bl b0) H) (fun H => Q (.bl (!b0)) H) i m H
theorem gen_made {c P : Addr} {elt tg iter : Expr} {gpos : Pos} {scope : Scope} {wi : TI} {gt : TG} {te : TE} {capt : List (Option Nat)} {N' : List Str} {b0 : Bool} {k : Nat} {pins : List (Addr × Obj)} {σ : L2.St} {H : Hp} {s : Shared} {Q : VK}
    (hr : Room (k + 1) X.A) (hcalm : X.calm = true) (TB : TabB X.base X.mg c P) (hcode : X.env.code = .ref c) (S : GOk X.N X.env.scope scope N' capt) (hi : PI X tg iter wi)
    (hg : ∀ (s : Shared) (H : Hp) (C : Addr) (code : Value) (bi : Addr) (fp : List Addr), PG (gxCx X s H N' (genEnv scope (cloFrom X.env.cells scope.names []) C code bi X.env) fp) tg gt)
    (he : ∀ (s : Shared) (H : Hp) (C : Addr) (code : Value) (bi : Addr) (fp : List Addr), Room k (gxCx X s H N' (genEnv scope (cloFrom X.env.cells scope.names []) C code bi X.env) fp).A → PE (gxCx X s H N' (genEnv scope (cloFrom X.env.cells scope.names []) C code bi X.env) fp) elt te)
    (hs : ∀ v, genFold iter X.env v = pure v) (I : Inv X pins σ H s) (h : tAG P b0 wi gt te capt σ H Q) :
    wpAny (model X.prog X.w) X.A (eval (.GeneratorExp elt [⟨tg, iter, [], 0⟩] scope gpos) X.env) (GMk X pins σ b0 Q) X.xe s := by
  have hfree : ∀ y ∈ scope.names, y.2 = .free → ∃ c, X.env.cells.lookup y.1 = some c := fun y hy e => by
    rcases S.free y hy e with k | k
    · exact I.ok.has _ (.inl k)
    · exact I.ok.has _ (.inr k)
  refine wpAny_GeneratorExp_make S.co (closure_ok hfree) S.cell S.dot S.kind (by have := hr.dp; omega) ?_ hs
  refine thn (hi.run pins s σ H _ I h) fun xv s1 h1 => thn h1 fun itv s2 h2 => ?_
  obtain ⟨it, fp, tn, J, H2, e, I2, T, st2, f2, hTab, hW⟩ := h2
  subst e
  obtain ⟨ps, hP, ht⟩ := hTab
  have hPs : s2.heap.get? P = some { cls := .none, data := .fields ps } := I2.hok P _ hP
  have cd : PySem.W.CodeHd s2.heap c P := TB.code.keeps fun b u e => I2.bk b u e
  have nP : ∀ b ∈ fp, b ≠ P := fun b hb z => by
    have := (f2 b hb).1
    rw [z, hP] at this
    cases this
  have cont : ∀ (code : Value) (h3 : Heap) (tk : Nat) (ps' : Array Value), Heap.ExtBut P s2.heap h3 → h3.get? P = some { cls := .none, data := .fields ps' } → (∃ more, ps' = ps ++ more) → TriplesOk ps'.toList →
      wpAny (model X.prog X.w) X.A (builtinsFor X.env.globals X.env.builtins) (fun bi s₄ =>
        ∀ h', h'.Ns s₄.heap.objs.size (fun y => if y = ".0" then some (Value.ref it) else none) → Heap.SameBut s₄.heap.objs.size (s₄.heap.push { cls := .type "frame", data := .dict #[] }) h' →
          GMk X pins σ b0 Q (.ref h'.objs.size) { s₄ with
            gens := s₄.gens.push (.fresh (.compStart (.GeneratorExp elt [⟨tg, iter, [], 0⟩] scope gpos) 0 (.ref it) .none (genEnv scope (cloFrom X.env.cells scope.names []) s₄.heap.objs.size code bi X.env))),
            toks := s₄.toks + 1 + 1 + 1,
            heap := h'.push { cls := .type "generator", data := .fields #[.int s₄.gens.size 0, .str "<genexpr>" (s₄.toks + 1), .str (X.env.qual ++ "<genexpr>") (s₄.toks + 1 + 1)] } }) X.xe { s2 with heap := h3, toks := tk } := by
    intro code h3 tk ps' hx hP3 hmore ht3
    obtain ⟨more, em⟩ := hmore
    obtain ⟨bm, ob, e1, e2, e3, e4, e5, e6, e7, e8⟩ := TB.bm
    have I3 : Inv X pins σ (upd H2 P (.tbl (ps ++ more))) { s2 with heap := h3, toks := tk } := by
      exact inv_tab (more := more) (h' := h3) (g' := s2.gens) (d' := s2.drawn) (t' := tk) I2 hP (fun b u hb e => hx b u hb e) (by rw [← em]; exact hP3) I2.bare
    refine wpAny_builtinsFor (m := X.mg) (by rw [I2.ok.glob]; exact (I2.mod.glob.keeps I2.bk).extBut hx TB.gP) e1 e2 (hx _ _ e4 (I2.bk _ _ e5)) e6 e7 e8 ?_
    intro h' hn' hs'
    dsimp only at hn' hs' ⊢
    generalize hgo : ({ cls := .type "generator", data := .fields #[.int s2.gens.size 0, .str "<genexpr>" (tk + 1), .str (X.env.qual ++ "<genexpr>") (tk + 1 + 1)] } : Obj) = go
    have hTabbed : Tabbed P H2 (upd H2 P (.tbl (ps ++ more))) := ⟨⟨ps ++ more, upd_same, by rw [← em]; exact ht3⟩, fun b hb => upd_ne hb⟩
    obtain ⟨W, ⟨m0, w0⟩, turn⟩ := hW _ hTabbed
    have f3 : ∀ b ∈ fp, FpOk X pins (upd H2 P (.tbl (ps ++ more))) b ∧ b < h3.objs.size := fun b hb => by
      refine ⟨⟨?_, (f2 b hb).2⟩, ?_⟩
      · rw [upd_ne (nP b hb)]
        exact (f2 b hb).1
      · obtain ⟨o, e, _⟩ := T.obj _ _ st2 b hb
        exact Heap.lt_size (hx b o (nP b hb) e)
    have st3 : tn 0 h3 := T.keep _ _ _ st2 fun b hb o e => hx b o (nP b hb) e
    have hcd : ∀ v, go.data ≠ .cell v := fun v z => by rw [← hgo] at z; cases z
    have hnfr : go.isFreed = false := by rw [← hgo]; rfl
    have hsz : h'.objs.size = h3.objs.size + 1 := by rw [hs'.1, Heap.size_push]
    have I4 := gx_start (gs := s2.gens.push (.fresh (.compStart (.GeneratorExp elt [⟨tg, iter, [], 0⟩] scope gpos) 0 (.ref it) .none (genEnv scope (cloFrom X.env.cells scope.names []) h3.objs.size code builtinsNs X.env)))) (tk := tk + 1 + 1 + 1) (code := code) (go := go)
      I3 hr.hd S f3 rfl hn' hs' (I2.bare.push rfl) hcd hnfr
    have kp5 : ∀ b o, h3.get? b = some o → (h'.push go).get? b = some o := fun b o e => Heap.get?_push_of_some _ (hs'.extBut b o (Nat.ne_of_lt (Heap.lt_size e)) (Heap.get?_push_of_some _ e))
    have hbi : X.env.builtins = builtinsNs := I2.ok.blt
    have hcE : ∀ {bi : Addr}, bi = builtinsNs → genEnv scope (cloFrom X.env.cells scope.names []) h3.objs.size code bi X.env = genEnv scope (cloFrom X.env.cells scope.names []) h3.objs.size code builtinsNs X.env := fun {bi} e => by rw [e]
    generalize hce : genEnv scope (cloFrom X.env.cells scope.names []) h3.objs.size code builtinsNs X.env = ce at I4
    have pg4 := hg { s2 with heap := h3, toks := tk } (upd H2 P (.tbl (ps ++ more))) h3.objs.size code builtinsNs fp
    have pe4 := he { s2 with heap := h3, toks := tk } (upd H2 P (.tbl (ps ++ more))) h3.objs.size code builtinsNs fp
      ⟨hr.hd, by have := hr.dp; show X.A.depth + 1 + 3 * k + 5 < _; omega, by have := hr.un; show X.A.units + 1 + 1 + 3 + 16 * k + 200 < _; omega⟩
    rw [hce] at pg4 pe4
    have hgenat : (h'.push go).get? h'.objs.size = some go := Heap.get?_push_size _ hnfr
    have isgen : ∀ h9 : Heap, h9.get? h'.objs.size = some go → h9.IsGen h'.objs.size s2.gens.size := fun h9 e9 => by
      refine ⟨go, .str "<genexpr>" (tk + 1), .str (X.env.qual ++ "<genexpr>") (tk + 1 + 1), e9, ?_, ?_, ?_⟩
      · rw [← hgo]
      · rw [← hgo]
      · rw [← hgo]
    have pgn : h'.objs.size ∉ fp := fun hb => by
      have := (f3 _ hb).2
      rw [hsz] at this
      exact absurd this (Nat.not_lt.mpr (Nat.le_succ _))
    have back : ∀ {H' : Hp} {s' : Shared}, Inv (gxCx X { s2 with heap := h3, toks := tk } (upd H2 P (.tbl (ps ++ more))) N' ce fp) [(h'.objs.size, go)] (capS capt σ) H' s' → Inv X pins σ H' s' := fun {H' s'} I6 =>
      I3.call' (ch := fp) I6.os I6.base I6.hok I6.bare fun b hb => ⟨(f3 b hb).1.2.2.2.1, (f3 b hb).1.2.1, (f3 b hb).1.2.2.2.2.1, (f3 b hb).1.2.2.2.2.2⟩
    have atS : ∀ {H' : Hp} {σ' : L2.St} {s' : Shared}, Inv (gxCx X { s2 with heap := h3, toks := tk } (upd H2 P (.tbl (ps ++ more))) N' ce fp) [(h'.objs.size, go)] σ' H' s' → s'.heap.get? h'.objs.size = some go := fun {H' σ' s'} I6 =>
      (I6.pin (h'.objs.size, go) (List.mem_append_right _ List.mem_cons_self)).1
    have start : ∀ s' : Shared, Woke s2.gens.size { s2 with gens := s2.gens.push (.fresh (.compStart (.GeneratorExp elt [⟨tg, iter, [], 0⟩] scope gpos) 0 (.ref it) .none ce)), toks := tk + 1 + 1 + 1, heap := h'.push go } s' →
        GW (gxCx X { s2 with heap := h3, toks := tk } (upd H2 P (.tbl (ps ++ more))) N' ce fp) (h'.objs.size, go) s2.gens.size (capS capt σ) fp tn W 0 m0 s' := fun s' z => by
      refine ⟨upd H2 P (.tbl (ps ++ more)), ?_, ?_, fun b hb => (f3 b hb).1.1, w0, z.size⟩
      · exact inv_gens' I4 z.heap z.os z.bare
      · rw [z.heap]
        exact T.keep _ _ _ st3 fun b _ o e => kp5 b o e
    have hceA : ce.scope.isCoroutine = false := by rw [← hce]; exact S.co
    refine ⟨h'.objs.size, s2.gens.size, m0 + 1, gY (gxCx X { s2 with heap := h3, toks := tk } (upd H2 P (.tbl (ps ++ more))) N' ce fp) (h'.objs.size, go) s2.gens.size (capS capt σ) fp tn W b0 (fun H => Q (.bl (!b0)) H),
      gP (gxCx X { s2 with heap := h3, toks := tk } (upd H2 P (.tbl (ps ++ more))) N' ce fp) (h'.objs.size, go) s2.gens.size (capS capt σ) (fun H => Q (.bl b0) H), rfl, ?_, ?_, ?_, ?_⟩
    · exact isgen _ (by simpa only [hgo] using hgenat)
    · have e9 : (genEnv scope (cloFrom X.env.cells scope.names []) h3.objs.size code X.env.builtins X.env) = ce := by rw [hbi]; exact hce
      refine ⟨.fresh (.compStart (.GeneratorExp elt [⟨tg, iter, [], 0⟩] scope gpos) 0 (.ref it) .none ce), ?_, isgen _ (by simpa only [hgo] using hgenat), ?_, ?_, fun s' z => ⟨rfl, ?_⟩⟩
      · show (s2.gens.push _)[s2.gens.size]? = _
        first
          | (rw [Array.getElem?_push_size]; rw [hce])
          | (rw [Array.getElem?_push_size]; rw [e9])
          | (simp [hce])
      · exact I4.nolimit
      · exact I2.bare.push rfl
      · have z' : Woke s2.gens.size { s2 with gens := s2.gens.push (.fresh (.compStart (.GeneratorExp elt [⟨tg, iter, [], 0⟩] scope gpos) 0 (.ref it) .none ce)), toks := tk + 1 + 1 + 1, heap := h'.push go } s' := ⟨z.heap.trans (by rw [← hgo]), z.os, z.bare, z.size⟩
        exact seg_gxStart (Y := gxCx X { s2 with heap := h3, toks := tk } (upd H2 P (.tbl (ps ++ more))) N' ce fp) (A := X.A.in1.in1) rfl rfl hceA rfl rfl rfl pgn T pg4 pe4 turn m0 (m0 + 1) s' s' (Nat.lt_succ_self _) (start s' z')
    · intro n s₀ v s₁ kap hy
      obtain ⟨b, rfl, hy⟩ := hy
      refine ⟨b, rfl, fun gs' hb => ?_⟩
      by_cases hb0 : b = b0
      · rw [if_pos hb0] at hy ⊢
        obtain ⟨⟨i, m, _, gw⟩, hk⟩ := hy
        obtain ⟨H9, I9, _, _, _, sz9⟩ := gw
        refine ⟨fun s' z => hk s' ⟨z.heap, z.os, z.bare, by have := z.size; exact this⟩, sz9, isgen _ (atS I9), I9.nolimit, I9.bare⟩
      · rw [if_neg hb0] at hy ⊢
        obtain ⟨H9, I9, sz9, q9⟩ := hy
        exact ⟨H9, back (inv_gens' I9 rfl rfl (bare_setGen I9.bare hb)), q9⟩
    · intro n s₀ s₁ h9 hp hk
      obtain ⟨H9, I9, sz9, q9⟩ := hp
      refine ⟨H9, back ?_, q9⟩
      have I10 := inv_gens' (s' := s₁.setGen s2.gens.size .finished) I9 rfl rfl (bare_setGen I9.bare rfl)
      exact I10.kept (h' := h9) (t' := s₁.toks) hk
  refine ⟨I2.nolimit, ?_⟩
  cases hf : codeAmong gpos ps.toList with
  | none =>
    refine wpAny_genexprCodeX hcode (cd.code hPs ht) (cd.tab hPs) hf fun c' h' tk hx hge hlt hco' _ htab' _ => ?_
    obtain ⟨o1, vs, f1, tf, fl, tg, inF, tx, tt, op, _, _, _, _, _, _, _, _, _, htr, _⟩ := hco'
    exact cont _ h' tk _ hx htab'.2 ⟨_, rfl⟩ htr
  | some cv =>
    refine wpAny_genexprCode_hit hcode (cd.code hPs ht) hf ?_
    exact cont cv s2.heap s2.toks ps (Heap.ExtBut.refl _ _) hPs ⟨#[], by simp⟩ ht
end
end GxA
set_option Elab.async false
set_option linter.all false
set_option maxRecDepth 100000
set_option maxHeartbeats 2000000
namespace GxA
open PySem PySem.Spec PyProof.Rows L2 GxR
section
variable {X : Cx}
theorem pe_all {c P : Addr} {elt tg iter : Expr} {p pos gpos : Pos} {scope : Scope} {wi : TI} {gt : TG} {te : TE} {capt : List (Option Nat)} {N' : List Str} {k : Nat}
    (hr : Room (k + 1) X.A) (hcalm : X.calm = true) (hga : Gl X "all") (hm : X.mg "all" = none) (TB : TabB X.base X.mg c P) (hcode : X.env.code = .ref c) (S : GOk X.N X.env.scope scope N' capt) (hi : PI X tg iter wi)
    (hg : ∀ (s : Shared) (H : Hp) (C : Addr) (code : Value) (bi : Addr) (fp : List Addr), PG (gxCx X s H N' (genEnv scope (cloFrom X.env.cells scope.names []) C code bi X.env) fp) tg gt)
    (he : ∀ (s : Shared) (H : Hp) (C : Addr) (code : Value) (bi : Addr) (fp : List Addr), Room k (gxCx X s H N' (genEnv scope (cloFrom X.env.cells scope.names []) C code bi X.env) fp).A → PE (gxCx X s H N' (genEnv scope (cloFrom X.env.cells scope.names []) C code bi X.env) fp) elt te)
    (hb : bootBuiltins "all" = some (.builtin "all") := by decide +kernel) (hs : ∀ v, genFold iter X.env v = pure v := by intro _; rfl)
    (he1 : starEach [.GeneratorExp elt [⟨tg, iter, [], 0⟩] scope gpos] X.env = (false, eval (.GeneratorExp elt [⟨tg, iter, [], 0⟩] scope gpos) X.env) :: starEach [] X.env := by rfl) :
    PE X (.Call (.Name "all" p) [.GeneratorExp elt [⟨tg, iter, [], 0⟩] scope gpos] [] pos) (tAG P true wi gt te capt) := by
  refine ⟨fun pins s σ H Q I h => ?_⟩
  refine wpAny_Call_Name_kw (ld_blt I hga hm hb ?_)
  refine PyProof.Rows.callWith_builtin1 ?_ he1 (by rfl)
  rw [he1]
  show wpAny _ _ (spliced ((false, eval (.GeneratorExp elt [⟨tg, iter, [], 0⟩] scope gpos) X.env) :: backTo pos (starEach [] X.env))) _ _ s
  refine Calls.spliced_cons (thn (gen_made hr hcalm TB hcode S hi hg he hs I h) fun u s5 hG => ?_)
  obtain ⟨a, g, n, Yp, Pp, rfl, hgen, hJ, hY, hP⟩ := hG
  refine Calls.spliced_nil ?_
  show wpAny _ X.A (call (.builtin "all") [.ref a]) _ _ _
  refine call_function_tree F.kind_all F.plain_all F.entry_all (F.args_all1 _) ?_
  unfold Builtin.«all»
  refine wpAny_bind (m := oneArg "all" _) (wpAny_pure ?_)
  refine wpAny_bind (wpAny_pyIter_gen hgen ?_)
  refine wpAny_pure ⟨plainId_quiet F.plain_all_loop _, ?_⟩
  exact all_loop (Tq := fun s' => ∃ H', Inv X pins σ H' s' ∧ Q (.bl true) H') (Fq := fun s' => ∃ H', Inv X pins σ H' s' ∧ Q (.bl false) H') hr.hd (by have := hr.dp; omega) hY hP (fun s' ⟨H', I', q⟩ => ⟨.bl true, H', I', rfl, q⟩) (fun s' ⟨H', I', q⟩ => ⟨.bl false, H', I', rfl, q⟩) n _ hJ
theorem pe_any {c P : Addr} {elt tg iter : Expr} {p pos gpos : Pos} {scope : Scope} {wi : TI} {gt : TG} {te : TE} {capt : List (Option Nat)} {N' : List Str} {k : Nat}
    (hr : Room (k + 1) X.A) (hcalm : X.calm = true) (hga : Gl X "any") (hm : X.mg "any" = none) (TB : TabB X.base X.mg c P) (hcode : X.env.code = .ref c) (S : GOk X.N X.env.scope scope N' capt) (hi : PI X tg iter wi)
    (hg : ∀ (s : Shared) (H : Hp) (C : Addr) (code : Value) (bi : Addr) (fp : List Addr), PG (gxCx X s H N' (genEnv scope (cloFrom X.env.cells scope.names []) C code bi X.env) fp) tg gt)
    (he : ∀ (s : Shared) (H : Hp) (C : Addr) (code : Value) (bi : Addr) (fp : List Addr), Room k (gxCx X s H N' (genEnv scope (cloFrom X.env.cells scope.names []) C code bi X.env) fp).A → PE (gxCx X s H N' (genEnv scope (cloFrom X.env.cells scope.names []) C code bi X.env) fp) elt te)
    (hb : bootBuiltins "any" = some (.builtin "any") := by decide +kernel) (hs : ∀ v, genFold iter X.env v = pure v := by intro _; rfl)
    (he1 : starEach [.GeneratorExp elt [⟨tg, iter, [], 0⟩] scope gpos] X.env = (false, eval (.GeneratorExp elt [⟨tg, iter, [], 0⟩] scope gpos) X.env) :: starEach [] X.env := by rfl) :
    PE X (.Call (.Name "any" p) [.GeneratorExp elt [⟨tg, iter, [], 0⟩] scope gpos] [] pos) (tAG P false wi gt te capt) := by
  refine ⟨fun pins s σ H Q I h => ?_⟩
  refine wpAny_Call_Name_kw (ld_blt I hga hm hb ?_)
  refine PyProof.Rows.callWith_builtin1 ?_ he1 (by rfl)
  rw [he1]
  show wpAny _ _ (spliced ((false, eval (.GeneratorExp elt [⟨tg, iter, [], 0⟩] scope gpos) X.env) :: backTo pos (starEach [] X.env))) _ _ s
  refine Calls.spliced_cons (thn (gen_made hr hcalm TB hcode S hi hg he hs I h) fun u s5 hG => ?_)
  obtain ⟨a, g, n, Yp, Pp, rfl, hgen, hJ, hY, hP⟩ := hG
  refine Calls.spliced_nil ?_
  show wpAny _ X.A (call (.builtin "any") [.ref a]) _ _ _
  refine call_function_tree F.kind_any F.plain_any F.entry_any (F.args_any1 _) ?_
  unfold Builtin.«any»
  refine wpAny_bind (m := oneArg "any" _) (wpAny_pure ?_)
  refine wpAny_bind (wpAny_pyIter_gen hgen ?_)
  refine wpAny_pure ⟨plainId_quiet F.plain_any_loop _, ?_⟩
  exact any_loop (Tq := fun s' => ∃ H', Inv X pins σ H' s' ∧ Q (.bl false) H') (Fq := fun s' => ∃ H', Inv X pins σ H' s' ∧ Q (.bl true) H') hr.hd (by have := hr.dp; omega) hY hP (fun s' ⟨H', I', q⟩ => ⟨.bl false, H', I', rfl, q⟩) (fun s' ⟨H', I', q⟩ => ⟨.bl true, H', I', rfl, q⟩) n _ hJ
end
#print axioms pe_all
end GxA
set_option Elab.async false
set_option linter.all false
set_option maxRecDepth 100000
set_option maxHeartbeats 2000000
/-! super().__init__(..) as the first statement of an own class's __init__: the next class's __init__ is a def of the text, or ValueError's. -/
namespace SupX
open PySem PySem.Spec PyProof.Rows L2 PySem.W
/-- the scope of a def that says super() -/
structure SScope (N P : List Str) (sc : Scope) : Prop where
  kind : sc.kind = .function
  co : sc.isCoroutine = false
  gen : sc.isGenerator = false
  nd : N.Nodup
  pre : N.take P.length = P
  par : ∀ x ∈ P, sc.names.lookup x = some .local
  nocell : ∀ y ∈ sc.names, y.2 ≠ .cell
  free : ∀ y ∈ sc.names, y.2 = .free → y.1 = ("__class__" : Str)
  cls : sc.names.lookup ("__class__" : Str) = some .free
  sup : sc.names.lookup ("super" : Str) = some .globalImplicit
/-- what the written part says of the class at D and its __init__ at f, whose first statement is super().__init__(..) -/
structure SupT (prog : Program) (K : Frag) (mg : Str → Option Value) (D cc cda f : Addr) (qual : Str) (params : Arguments) (body : List Stmt) (scope : Scope) (fd : FuncData) : Prop where
  fn : ∃ (oc : Value) (od : Option Addr) (kV doc pm : Value) (an : Option Addr) (ct : Value) (osl : Array (Option Value)),
    fd = ksFn "__init__" qual params body scope .none kV doc pm an (.ref cda) ct cc ∧ K.lookup f = some ⟨oc, od, .func fd, osl⟩
  code : codeIn K (.ref cda) qual = true
  file : ∃ (ccl : Value) (cdd : Option Addr) (vs : Array Value) (ccs : Array (Option Value)) (fl : Str) (tf : Tok), K.lookup cda = some ⟨ccl, cdd, .fields vs, ccs⟩ ∧ vs[2]? = some (.str fl tf) ∧ ((prog.main.file : Str) == fl) = true
  cell : ∃ (cl : Value) (cld : Option Addr) (csl : Array (Option Value)), K.lookup cc = some ⟨cl, cld, .cell (some (.ref D)), csl⟩
  cls : ∃ cd, clsIn K D = some cd
  mro : mroIn K D (.ref D) = some true
  sup : mg "super" = none
  top : (prog.main.scope.names.lookup ("super" : Str)).isSome = false
  tpa : nsIn K cStatics "thirdparty.any" = some none
  self : ∃ ar, (params.posonlyargs ++ params.args).head? = some ar ∧ ar.arg = ("self" : Str)
/-- the body's context -/
def supCx (CX : CXT) (P : Program) (w : World) (K : Frag) (mg : Str → Option Value) (base : Heap) (N : List Str) (qual : Str) (scope : Scope) (f cda cc : Addr) (A : Around) (outer : List Env) (s : Shared) (H : Hp) (E : XK) : Cx where
  prog := P
  w := w
  K := K
  mg := mg
  base := base
  A := A.deeper (ksEnv qual scope s.heap.objs.size f (.ref cda) cc)
  N := N
  s_0 := s
  H_0 := H
  env := ksEnv qual scope s.heap.objs.size f (.ref cda) cc
  outer := outer
  stack := ksEnv qual scope s.heap.objs.size f (.ref cda) cc :: outer
  ex := []
  calm := true
  fn := fun _ => false
  pn := []
  xe := fun _ _ => False
theorem sup_start {CX : CXT} {P : Program} {w : World} {K : Frag} {mg : Str → Option Value} {base : Heap} {N ps : List Str} {qual : Str} {scope : Scope} {f cda cc : Addr} {A : Around} {outer : List Env} {s : Shared} {H : Hp} {E : XK} {us : List Value} {vs : List V} {h1 : Heap} {tk : Nat} {ov : Option Value}
    (S : SScope N ps scope) (hd : A.handled = none) (e0 : Env0 P w K mg base A outer s H) (hl : vs.length = ps.length) (r : Vals vs us) (hcc : ∃ cl cld csl, K.lookup cc = some ⟨cl, cld, .cell ov, csl⟩)
    (hns : h1.Ns s.heap.objs.size (fun x => (ps.zip us).reverse.lookup x)) (hk : ∀ b o, s.heap.get? b = some o → h1.get? b = some o) :
    Inv (supCx CX P w K mg base N qual scope f cda cc A outer s H E) [] (L2.start N vs) H { s with heap := h1, toks := tk } := by
  have hpl : ps.length ≤ N.length := by have := congrArg List.length S.pre; rw [List.length_take] at this; omega
  obtain ⟨cl, cld, csl, hcl⟩ := hcc
  have hb : base.get? cc = some ⟨cl, cld, .cell ov, csl⟩ := e0.mod.kin cc _ hcl
  have hcb := e0.bs cc _ hb
  have look1 : ∀ {y c}, (supCx CX P w K mg base N qual scope f cda cc A outer s H E).env.cells.lookup y = some c → y = ("__class__" : Str) ∧ c = cc := fun {y c} h => by
    have h : List.lookup y [(("__class__" : Str), cc)] = some c := h
    by_cases hy : y = ("__class__" : Str)
    · subst hy
      simp [List.lookup] at h
      exact ⟨rfl, h.symm⟩
    · have q : (y == ("__class__" : Str)) = false := by simpa using hy
      simp [List.lookup, q] at h
  have noA : ∀ b : Addr, b ∉ (supCx CX P w K mg base N qual scope f cda cc A outer s H E).ex := fun b z => absurd (show b ∈ ([] : List Addr) from z) (by simp)
  refine ⟨⟨e0.mod, S.kind, rfl, rfl, Nat.le_refl _, fun y z c h1 h2 => ?_, fun y hy => ?_, fun y c z _ => (by cases z), fun _ => hd, Around.frames_deeper e0.frames, .inr ⟨rfl, rfl⟩, fun b z => absurd z (noA b), e0.bs, e0.bsz, fun b _ _ => noA b, fun b z => absurd z (noA b), e0.funs, e0.frf⟩,
    rfl, e0.bare, Un.kept hk, ⟨_, hns, fun i y v h1 h2 h3 => ?_⟩, fun y c h => ?_, e0.hok.fresh (Nat.le_refl _), fun y c h => ?_, fun p hp => absurd (show p ∈ ([] : List (Addr × Obj)) from hp) (by simp), e0.hok.kept hk, ?_⟩
  · exact (look1 h1).1.trans (look1 h2).1.symm
  · have hy : scope.names.lookup y = some .cell ∨ scope.names.lookup y = some .free := hy
    rcases hy with hy | hy
    · exact absurd rfl (S.nocell _ (PySem.mem_of_lookup hy))
    · have e := S.free _ (PySem.mem_of_lookup hy) rfl
      have e : y = ("__class__" : Str) := e
      subst e
      exact ⟨cc, by show List.lookup ("__class__" : Str) [(("__class__" : Str), cc)] = _; simp [List.lookup]⟩
  · have hi : i < vs.length := by
      unfold L2.start at h2
      by_cases hi : i < vs.length
      · exact hi
      · rw [List.getElem?_append_right (by simpa using hi)] at h2
        rw [List.getElem?_replicate] at h2
        split at h2 <;> cases h2
    have ha : vs[i]? = some v := by
      unfold L2.start at h2
      rw [List.getElem?_append_left (by simpa using hi), List.getElem?_map] at h2
      cases e : vs[i]? with
      | none => rw [e] at h2; cases h2
      | some a => rw [e] at h2; cases h2; rfl
    obtain ⟨u, hu, rv⟩ := r.get ha
    have hp : ps[i]? = some y := by
      rw [← S.pre, List.getElem?_take_of_lt (by omega)]; exact h1
    have ndP : ps.Nodup := by rw [← S.pre]; exact S.nd.sublist (List.take_sublist _ _)
    refine ⟨u, rv, .inl ⟨S.par y (List.mem_of_getElem? hp), ?_⟩⟩
    show (ps.zip us).reverse.lookup y = some u
    have mem : (y, u) ∈ (ps.zip us).reverse := List.mem_reverse.mpr (by
      refine List.mem_of_getElem? (i := i) ?_
      rw [List.getElem?_zip_eq_some]
      exact ⟨hp, hu⟩)
    obtain ⟨u', hu'⟩ := mem_lookup mem
    rw [hu']
    have m2 := List.mem_reverse.mp (PySem.mem_of_lookup hu')
    obtain ⟨j, hj⟩ := List.mem_iff_getElem?.mp m2
    rw [List.getElem?_zip_eq_some] at hj
    have eij : j = i := nodup_ix ndP hj.1 hp
    rw [eij] at hj
    rw [hu] at hj
    exact hj.2.symm
  · obtain ⟨_, rfl⟩ := look1 h
    exact ⟨ov, ⟨cl, cld, .cell ov, csl⟩, hk _ _ hcb.1, rfl⟩
  · obtain ⟨_, rfl⟩ := look1 h
    exact hcb.2
  · unfold L2.start
    show _ = N.length
    rw [List.length_append, List.length_map, List.length_replicate]
    omega
section
variable {CX : CXT} {P : Program} {w : World} {K : Frag} {mg : Str → Option Value} {base : Heap} {N ps : List Str} {qual : Str} {scope : Scope} {f cda cc : Addr} {A : Around} {outer : List Env} {s0 s : Shared} {H0 H : Hp} {E0 : XK} {D x : Addr} {params : Arguments} {body : List Stmt} {fd : FuncData} {σ : L2.St} {ox : Obj} {E : Value → Shared → Prop}
/-- super() -/
theorem sup_base {whole : Sem Value} {p0 p1 : Pos} {Q : Value → Shared → Prop} (S : SScope N ps scope) (T : SupT P K mg D cc cda f qual params body scope fd) (I : Inv (supCx CX P w K mg base N qual scope f cda cc A outer s0 H0 E0) [] σ H s)
    (hN : N[0]? = some ("self" : Str)) (hp : ("self" : Str) ∈ ps) (hσ : σ[0]? = some (some (.ref x))) (hx : s.heap.get? x = some ox) (hxc : ox.cls = .ref D) (hnc : ∀ c, ox.data ≠ .cls c)
    (h : ∀ so s', Inv (supCx CX P w K mg base N qual scope f cda cc A outer s0 H0 E0) [(so, ks_superObj D x D)] σ H s' → s'.heap.get? x = some ox → Q (.ref so) s') :
    PySem.wpAt (model P w) (A.deeper (ksEnv qual scope s0.heap.objs.size f (.ref cda) cc)) (.func body (ksEnv qual scope s0.heap.objs.size f (.ref cda) cc)) (attributeBase (.Call (.Name "super" p0) [] [] p1) "__init__" (ksEnv qual scope s0.heap.objs.size f (.ref cda) cc) whole) Q E s := by
  obtain ⟨oc, od, kV, doc, pm, an, ct, osl, rfl, lk⟩ := T.fn
  obtain ⟨ccl, cdd, vs, ccs, fl, tf, hcode, hvs, hfile⟩ := T.file
  obtain ⟨cl, cld, csl, hcell⟩ := T.cell
  obtain ⟨cdD, hD⟩ := T.cls
  obtain ⟨ar, har, hself⟩ := T.self
  have X : K.In s.heap := I.kIn
  obtain ⟨m, hns, hl⟩ := I.loc
  have hvis : Vis scope ("self" : Str) := .inl (S.par _ hp)
  obtain ⟨u, ru, lu⟩ := hl 0 "self" (.ref x) hN hσ hvis
  obtain rfl : u = Value.ref x := ru
  have hv : m ("self" : Str) = some (.ref x) := by
    rcases lu with ⟨_, q⟩ | ⟨q, _⟩
    · exact q
    · have e : scope.names.lookup ("self" : Str) = some .cell ∨ scope.names.lookup ("self" : Str) = some .free := q
      rw [S.par _ hp] at e
      rcases e with e | e <;> cases e
  obtain ⟨hh, g, d, t, os⟩ := s
  obtain ⟨oD, hD1, hD2⟩ : ∃ oD, hh.get? D = some oD ∧ oD.data = .cls cdD := by
    unfold clsIn at hD
    split at hD
    · rename_i c d cd' sl ho
      cases hD
      exact ⟨_, X _ _ ho, rfl⟩
    · cases hD
  obtain ⟨mb, hb1, hb2⟩ := I.mod.blt
  refine ks_wpAt_super_base (env := ksEnv qual scope s0.heap.objs.size f (.ref cda) cc) S.sup S.cls (by decide) rfl (X _ _ lk) rfl har rfl (X _ _ hcode) rfl hvs hfile T.top ?_
  refine ks_loadName_global S.kind S.sup (Calls.loadGlobal_builtin (env := ksEnv qual scope s0.heap.objs.size f (.ref cda) cc) (I.mod.glob.keeps I.bk) T.sup (hb1.keeps I.bk) ((hb2 _ (by decide +kernel)).trans (by decide +kernel : bootBuiltins "super" = some (.type "super"))) ⟨rfl, ?_⟩)
  refine wpAny_loadName_free S.kind S.cls (c := cc) (by show List.lookup ("__class__" : Str) [(("__class__" : Str), cc)] = _; simp [List.lookup]) ⟨_, X _ _ hcell, rfl⟩ ?_
  rw [hself]
  refine wpAny_loadName_local S.kind (S.par _ hp) hns hv ?_
  refine ks_wpAny_isType_cls hD1 hD2 ⟨rfl, ?_⟩
  refine ks_wpAny_call_super hD1 hD2 hx hxc hnc (looks_mroIn X T.mro) (fun h' e k => ?_)
  exact h _ _ (ClX.pin_new (t' := t) I k (Nat.le_refl _) e (fun v z => by cases z)) (k _ _ hx)
end
end SupX
set_option Elab.async false
set_option linter.all false
set_option maxRecDepth 100000
set_option maxHeartbeats 2000000
namespace SupX
open PySem PySem.Spec PyProof.Rows L2 PySem.W
section
variable {prog : Program} {w : World} {A : Around} {E : Value → Shared → Prop} {h : Heap} {g : Array GenState} {d : Drawn} {t : Nat} {os : OsState}
variable {nm q : Str} {C N : Addr} {bs bm : List Value} {hdct : Bool} {sn : List Str} {sub : List Value} {ab : Bool} {col : Option Bool} {dd : Option Addr} {k0 k1 k2 k3 k5 : Option Value}
/-- ValueError.__init__ bound to the exception at e, called -/
theorem call_mw {u e t0 : Addr} {dv : Option Addr} {rest : List Value} {Q : Value → Shared → Prop}
    (hC : h.get? C = some (excClassObj nm q C N bs bm hdct sn sub ab col dd k0 k1 k2 k3 k5 "ValueError.__new__")) (he : h.get? e = some ({ cls := .ref C, dict := dv, data := .fields #[.ref t0, .none, .none, .none, .bool false, .none] } : Obj)) (hu : h.get? u = some (kxs_mw "ValueError.__init__" e)) (hrest : rest.length ≤ sizeLine)
    (hq : ∀ h' t1, (∀ b o, b ≠ e → h.get? b = some o → h'.get? b = some o) → h'.get? e = some ({ cls := .ref C, dict := dv, data := .fields #[.ref t1, .none, .none, .none, .bool false, .none] } : Obj) → Q .none ⟨h', g, d, t, os⟩) :
    wpAny (model prog w) A (call (.ref u) rest) Q E ⟨h, g, d, t, os⟩ := by
  refine wpAny_call (codeAny_of_tree ?_)
  show wpAny _ A.in1 (callAny (.ref u) ⟨rest, []⟩) _ _ _
  simp only [callAny]
  refine wpAny_bind (wpAny_load hu ?_)
  simp only [kxs_mw, show (Value.type "method-wrapper" == Value.type "method" || Value.type "method-wrapper" == Value.type "builtin_function_or_method" || Value.type "method-wrapper" == Value.type "method-wrapper") = true by decide, if_true]
  refine KFB.if_so (by decide) ?_
  refine wpAny_bind (check_bound_init F.excBase_ValueError.toExcCallFacts hC he rfl ?_)
  refine wpAny_bind (wpAny_pure (wpAny_pure ?_))
  refine ⟨plainId_quiet F.excBase_ValueError.init.plain _, codeAny_builtin F.excBase_ValueError.initEntry ?_⟩
  rw [Around.under_plainId F.excBase_ValueError.init.plain _]
  wp_walk
  refine hq _ h.objs.size (fun b o hb ho => ?_) ?_
  · rw [Heap.get?_update_other _ _ (Ne.symm hb)]
    exact Heap.get?_push_of_some _ ho
  · rw [Heap.get?_update_self _ (Heap.get?_push_of_some _ he) rfl]
    rfl
end
section
variable {P : Program} {w : World} {K : Frag} {mg : Str → Option Value} {base : Heap} {N ps : List Str} {qual : Str} {scope : Scope} {f cda cc : Addr} {D : Addr} {params : Arguments} {fd : FuncData} {k : Nat} {sp : Sp} {e : Expr} {es : List Expr} {rest : List Stmt} {p0 p1 p2 p3 p4 : Pos}
theorem ext_len {ps : List Str} {us : List Value} (h : us.length = ps.length) : (ps.zip us).length = us.length := by rw [List.length_zip]; omega
/-- the two rules' common part: K2 is what the super call leaves -/
theorem fn_sup0 {pl : Sem Bool} {CX : CXT} (S : SScope N ps scope) (hN : N[0]? = some ("self" : Str)) (hp : ("self" : Str) ∈ ps) (T : SupT P K mg D cc cda f qual params (.Expr (.Call (.Attribute (.Call (.Name "super" p0) [] [] p1) "__init__" p2) (e :: es) [] p3) p4 :: rest) scope fd)
    (len : ∀ vs H Q E, sp vs H Q E → vs.length = ps.length)
    (hbody : ∀ (A : Around) (outer : List Env) (s : Shared) (H : Hp) (vs : List V) (Q : VK) (E : XK), Room k (A.deeper (ksEnv qual scope s.heap.objs.size f (.ref cda) cc)) → sp vs H Q E →
      ∃ (x : Addr) (R : Hp → Prop) (tr : TS), (L2.start N vs)[0]? = some (some (.ref x)) ∧
        (∀ (s1 : Shared), Inv (supCx CX P w K mg base N qual scope f cda cc A outer s H E) [] (L2.start N vs) H s1 → ∃ ox, s1.heap.get? x = some ox ∧ ox.cls = .ref D ∧ (∀ c, ox.data ≠ .cls c) ∧
          ∀ so s2, Inv (supCx CX P w K mg base N qual scope f cda cc A outer s H E) [(so, ks_superObj D x D)] (L2.start N vs) H s2 → s2.heap.get? x = some ox →
            wpAny (model P w) (A.deeper (ksEnv qual scope s.heap.objs.size f (.ref cda) cc)) (getMethod (.ref so) "__init__" pl) (fun fx s3 => wpAny (model P w) (A.deeper (ksEnv qual scope s.heap.objs.size f (.ref cda) cc)) (callWith p3 fx.1 fx.2 (backTo p3 (starEach (e :: es) (ksEnv qual scope s.heap.objs.size f (.ref cda) cc))) [])
              (fun _ s4 => ∃ H4, Inv (supCx CX P w K mg base N qual scope f cda cc A outer s H E) [] (L2.start N vs) H4 s4 ∧ R H4) (fun _ _ => False) s3) (fun _ _ => False) s2) ∧
        PSs (supCx CX P w K mg base N qual scope f cda cc A outer s H E) rest tr ∧ ∀ H4, R H4 → tr { nx := fun _ H' => Q .non H', rt := Q } (L2.start N vs) H4)
    (hpl : ∀ env : Env, eval (.Call (.Attribute (.Call (.Name "super" p0) [] [] p1) "__init__" p2) (e :: es) [] p3) env = (do
      let ov ← attributeBase (.Call (.Name "super" p0) [] [] p1) "__init__" env (eval (.Call (.Name "super" p0) [] [] p1) env)
      standAt p2.atName
      let (f, first) ← holding [ov] (getMethod ov "__init__" pl)
      callWith p3 f first (backTo p3 (starEach (e :: es) env)) []) := by intro _; rfl)
    (hsw : ∀ env : Env, swapsWith (.Call (.Attribute (.Call (.Name "super" p0) [] [] p1) "__init__" p2) (e :: es) [] p3) none p4.line env = pure false := by intro _; rfl) :
    FnOk P w K mg base CX (k + 1) f fd ps sp := by
  obtain ⟨oc, od, kV, doc, pm, an, ct, osl, efd, lk⟩ := T.fn
  have T' := T
  subst efd
  refine ⟨len, fun A outer s H args us vs Q E hr e0 hb r hsp => ?_⟩
  have hl := len _ _ _ _ hsp
  have KX : K.In s.heap := e0.mod.kin.keeps fun b o e => (e0.bs b o e).1
  have lim : s.heap.NoLimit := e0.mod.nolimit.keeps fun b o e => (e0.bs b o e).1
  obtain ⟨x, R, tr, hσ, hsuper, hrest, hR⟩ := hbody A outer s H vs Q E (hr.deeper _) hsp
  refine ks_codeAny_call_defAt (body := .Expr (.Call (.Attribute (.Call (.Name "super" p0) [] [] p1) "__init__" p2) (e :: es) [] p3) p4 :: rest) (binds := ps.zip us) hr.depth (KX _ _ lk) rfl lim (codeRec_of KX T.code) rfl hb S.nocell (fun y hy => ?_) (fun h1 hns hk => ?_) S.co S.gen S.kind
  · obtain ⟨y1, y2⟩ := y
    exact S.par y1 (List.of_mem_zip hy).1
  have I0 : Inv (supCx CX P w K mg base N qual scope f cda cc A outer s H E) [] (L2.start N vs) H { s with heap := h1, toks := s.toks + (ps.zip us).length } := by
    obtain ⟨cl, cld, csl, hcell⟩ := T.cell
    exact sup_start S hr.hd e0 hl r ⟨cl, cld, csl, hcell⟩ hns hk
  obtain ⟨ox, hx, hxc, hnc, hgo⟩ := hsuper _ I0
  have fin : ∀ {σ' : L2.St} {H' : Hp} {v : V} {u : Value} {s' : Shared}, Inv (supCx CX P w K mg base N qual scope f cda cc A outer s H E) [] σ' H' s' → RelV v u → Q v H' → CE outer P w H s Q u s' :=
    fun {σ' H' v u s'} J rv q => ⟨v, H', J.os, J.bare, J.base, J.hok, rv, q⟩
  refine ks_wpAt_execs_cons (ks_wpAt_Expr_any (ks_wpAt_MethodCall (pl := pl) ?_ (hpl _)) I0.quiet (hsw _))
  refine sup_base S T' I0 hN hp hσ hx hxc hnc fun so s2 I2 hx2 => ?_
  refine wpAny_mono (hgo so s2 I2 hx2) (fun fx s3 h3 => wpAny_mono h3 (fun _ s4 h4 => ?_) fun _ _ z => z.elim) fun _ _ z => z.elim
  obtain ⟨H4, I4, r4⟩ := h4
  refine wpAt_of_wpAny (wpAny_mono (hrest.run [] s4 (L2.start N vs) H4 _ I4 (hR H4 r4)) (fun fl s' hs => ?_) fun _ _ z => z.elim)
  cases fl with
  | ret u =>
    obtain ⟨v, σ', H', J, rv, q⟩ := hs
    exact fin J rv q
  | next =>
    obtain ⟨σ', H', J, q⟩ := hs
    exact fin (v := V.non) (u := Value.none) J rfl q
  | brk =>
    obtain ⟨_, _, _, q⟩ := hs
    exact False.elim q
  | cont =>
    obtain ⟨_, _, _, q⟩ := hs
    exact False.elim q
/-- the class above is an own one, its __init__ at f2 -/
theorem fn_supD {pl : Sem Bool} {CX CX2 : CXT} {j : Nat} {f2 : Addr} {sp2 : Sp} (S : SScope N ps scope) (hN : N[0]? = some ("self" : Str)) (hp : ("self" : Str) ∈ ps) (T : SupT P K mg D cc cda f qual params (.Expr (.Call (.Attribute (.Call (.Name "super" p0) [] [] p1) "__init__" p2) (e :: es) [] p3) p4 :: rest) scope fd)
    (hm : ks_superIn K D D "__init__" = some (some (.ref f2))) (ht : typeIn K (.ref f2) = some (.type "function")) (hfi : fnIn K f2 = true) (F2 : FnR P w K mg base CX2 j f2 sp2) (hj : j ≤ k) (hCX : ∀ l H s e s', ¬ CX2 l H s E0 e s')
    (len : ∀ vs H Q E, sp vs H Q E → vs.length = ps.length)
    (hbody : ∀ (A : Around) (outer : List Env) (s : Shared) (H : Hp) (vs : List V) (Q : VK) (E : XK), Room k (A.deeper (ksEnv qual scope s.heap.objs.size f (.ref cda) cc)) → sp vs H Q E →
      ∃ (x dx : Addr) (fs : List (Str × V)) (ta : TA) (tr : TS), (L2.start N vs)[0]? = some (some (.ref x)) ∧ H x = some (.ins D dx fs) ∧ PA (supCx CX P w K mg base N qual scope f cda cc A outer s H E) (e :: es) ta ∧
        PSs (supCx CX P w K mg base N qual scope f cda cc A outer s H E) rest tr ∧
        ta (L2.start N vs) H fun ws H1 => sp2 (.ref x :: ws) H1 (fun _ H2 => tr { nx := fun _ H' => Q .non H', rt := Q } (L2.start N vs) H2) E0)
    (hst : ∀ env : Env, starEach (e :: es) env = (false, eval e env) :: starEach es env := by intro _; rfl) (hpl2 : ∀ env : Env, (backTo p3 (starEach es env)).any (·.1) = false := by intro _; rfl)
    (hpl : ∀ env : Env, eval (.Call (.Attribute (.Call (.Name "super" p0) [] [] p1) "__init__" p2) (e :: es) [] p3) env = (do
      let ov ← attributeBase (.Call (.Name "super" p0) [] [] p1) "__init__" env (eval (.Call (.Name "super" p0) [] [] p1) env)
      standAt p2.atName
      let (f, first) ← holding [ov] (getMethod ov "__init__" pl)
      callWith p3 f first (backTo p3 (starEach (e :: es) env)) []) := by intro _; rfl)
    (hsw : ∀ env : Env, swapsWith (.Call (.Attribute (.Call (.Name "super" p0) [] [] p1) "__init__" p2) (e :: es) [] p3) none p4.line env = pure false := by intro _; rfl) :
    FnOk P w K mg base CX (k + 1) f fd ps sp := by
  refine fn_sup0 (CX := CX) S hN hp T len (fun A outer s H vs Q E hr hsp => ?_) hpl hsw
  obtain ⟨x, dx, fs, ta, tr, hσ, hH, hta, htr, hq⟩ := hbody A outer s H vs Q E hr hsp
  refine ⟨x, fun H2 => tr { nx := fun _ H' => Q .non H', rt := Q } (L2.start N vs) H2, tr, hσ, fun s1 I1 => ?_, htr, fun _ z => z⟩
  obtain ⟨_, _, _, ho, _⟩ := I1.hok x _ hH
  refine ⟨_, ho, rfl, fun c z => (by cases z), fun so s2 I2 hx2 => ?_⟩
  have X : K.In s2.heap := I2.kIn
  obtain ⟨cd, hcd⟩ := T.cls
  have hsu := hm
  unfold ks_superIn at hsu
  rw [hcd] at hsu
  have hso := ClX.pin_at I2
  have In : InstAt s2.heap x (instObj D dx) D (some ({ cls := .none, data := .plain } : Obj)) ∨ True := .inr trivial
  have hne : x ≠ D := by
    intro z
    obtain ⟨oD, hD1, hD2⟩ : ∃ oD, s2.heap.get? D = some oD ∧ oD.data = .cls cd := by
      unfold clsIn at hcd
      split at hcd
      · rename_i c d cd' sl ho
        cases hcd
        exact ⟨_, X _ _ ho, rfl⟩
      · cases hcd
    rw [z, hD1] at hx2
    cases hx2
    cases hD2
  obtain ⟨of, hof, hofc⟩ : ∃ of, s2.heap.get? f2 = some of ∧ of.cls = .type "function" := by
    have ht' : (K.lookup f2).map (·.cls) = some (.type "function") := ht
    cases z : K.lookup f2 with
    | none => rw [z] at ht'; cases ht'
    | some of => rw [z] at ht'; exact ⟨of, X _ _ z, Option.some.inj ht'⟩
  have I3 := ClX.met_new (g := f2) (C := x) I2
  have hbn := ClX.base_none I2 (Nat.le_refl _)
  obtain ⟨hh, g, d, t, os⟩ := s2
  refine ks_wpAny_getMethod_super hso (looks_opaque X T.tpa) (l₀ := cd.mro) ?_ rfl X hsu hof hofc hne (by decide) ?_
  · exact fun A Q E s k q => wpAny_bind ((looks_clsIn X hcd) A _ E s k (wpAny_pure q))
  refine ClX.callwith_cm (E := fun _ _ => False) (A := (supCx CX P w K mg base N qual scope f cda cc A outer s H E).A) I3 hbn hfi (thn (hta.run p3 _ _ (L2.start N vs) H _ I3 hq) fun us s4 ⟨ws, H4, I4, rv, q4⟩ => ⟨⟨ClX.pin_at I4, I4.kIn⟩, ?_⟩) (hst _) (hpl2 _)
  refine thn (ClX.run_cm (X := supCx CX P w K mg base N qual scope f cda cc A outer s H E) F2 (hr.mono hj) (fun _ _ _ _ _ _ _ z => (hCX _ _ _ _ _ z).elim) I4 rv q4) fun u s5 ⟨v, H5, I5, _, q5⟩ => ?_
  exact ⟨H5, ClX.unpin I5, q5⟩
/-- the class above is ValueError (with own classes between that have no __init__) -/
theorem fn_supV {pl : Sem Bool} {CX : CXT} (S : SScope N ps scope) (hN : N[0]? = some ("self" : Str)) (hp : ("self" : Str) ∈ ps) (T : SupT P K mg D cc cda f qual params (.Expr (.Call (.Attribute (.Call (.Name "super" p0) [] [] p1) "__init__" p2) (e :: es) [] p3) p4 :: rest) scope fd)
    (hm : ks_superIn K D D "__init__" = some (some (.builtin "ValueError.__init__"))) (hB : subIn K (.ref D) (.type "ValueError") = some true) (TC : OexC K D) (len : ∀ vs H Q E, sp vs H Q E → vs.length = ps.length)
    (hbody : ∀ (A : Around) (outer : List Env) (s : Shared) (H : Hp) (vs : List V) (Q : VK) (E : XK), Room k (A.deeper (ksEnv qual scope s.heap.objs.size f (.ref cda) cc)) → sp vs H Q E →
      ∃ (x : Addr) (ta : TA) (tr : TS), (L2.start N vs)[0]? = some (some (.ref x)) ∧ H x = some (exo x D none) ∧ PA (supCx CX P w K mg base N qual scope f cda cc A outer s H E) (e :: es) ta ∧
        PSs (supCx CX P w K mg base N qual scope f cda cc A outer s H E) rest tr ∧
        ta (L2.start N vs) H fun ws H1 => ws.length ≤ 1000 ∧ H1 x = some (exo x D none) ∧ tr { nx := fun _ H' => Q .non H', rt := Q } (L2.start N vs) H1)
    (hst : ∀ env : Env, starEach (e :: es) env = (false, eval e env) :: starEach es env := by intro _; rfl) (hpl2 : ∀ env : Env, (backTo p3 (starEach es env)).any (·.1) = false := by intro _; rfl)
    (hpl : ∀ env : Env, eval (.Call (.Attribute (.Call (.Name "super" p0) [] [] p1) "__init__" p2) (e :: es) [] p3) env = (do
      let ov ← attributeBase (.Call (.Name "super" p0) [] [] p1) "__init__" env (eval (.Call (.Name "super" p0) [] [] p1) env)
      standAt p2.atName
      let (f, first) ← holding [ov] (getMethod ov "__init__" pl)
      callWith p3 f first (backTo p3 (starEach (e :: es) env)) []) := by intro _; rfl)
    (hsw : ∀ env : Env, swapsWith (.Call (.Attribute (.Call (.Name "super" p0) [] [] p1) "__init__" p2) (e :: es) [] p3) none p4.line env = pure false := by intro _; rfl) :
    FnOk P w K mg base CX (k + 1) f fd ps sp := by
  refine fn_sup0 (CX := CX) S hN hp T len (fun A outer s H vs Q E hr hsp => ?_) hpl hsw
  obtain ⟨x, ta, tr, hσ, hH, hta, htr, hq⟩ := hbody A outer s H vs Q E hr hsp
  refine ⟨x, fun H2 => tr { nx := fun _ H' => Q .non H', rt := Q } (L2.start N vs) H2, tr, hσ, fun s1 I1 => ?_, htr, fun _ z => z⟩
  obtain ⟨t1, ho⟩ := exo_at I1.hok hH
  refine ⟨_, ho, rfl, fun c z => (by cases z), fun so s2 I2 hx2 => ?_⟩
  have X : K.In s2.heap := I2.kIn
  obtain ⟨cd, hcd⟩ := T.cls
  have hsu := hm
  unfold ks_superIn at hsu
  rw [hcd] at hsu
  have hso := ClX.pin_at I2
  have hne : x ≠ D := by
    intro z
    obtain ⟨oD, hD1, hD2⟩ : ∃ oD, s2.heap.get? D = some oD ∧ oD.data = .cls cd := by
      unfold clsIn at hcd
      split at hcd
      · rename_i c d cd' sl ho
        cases hcd
        exact ⟨_, X _ _ ho, rfl⟩
      · cases hcd
    rw [z, hD1] at hx2
    cases hx2
    cases hD2
  have hI : Looks (model P w) s2.heap (isInstance (.ref x) (.type "ValueError")) true := by
    have J : InstAt s2.heap x _ D none := ⟨hx2, rfl, rfl, trivial⟩
    exact J.type.andThen (looks_subIn X hB)
  have I3 : Inv (supCx CX P w K mg base N qual scope f cda cc A outer s H E) ((s2.heap.objs.size, kxs_mw "ValueError.__init__" x) :: [(so, ks_superObj D x D)]) (L2.start N vs) H { s2 with heap := s2.heap.push (kxs_mw "ValueError.__init__" x), toks := s2.toks + 1 } :=
    ClX.pin_new I2 (fun _ _ z => Heap.get?_push_of_some _ z) (Nat.le_refl _) (Heap.get?_push_size s2.heap rfl) (fun v z => nomatch z)
  obtain ⟨nm, q, N', bs, bm, sn, sub, ab, col, dd, k0, k1, k2, k3, k5, hC, hbm⟩ := TC.cls
  obtain ⟨hh, g, d, t, os⟩ := s2
  refine kxs_getMethod kxs_ValueError hso (looks_opaque X T.tpa) (l₀ := cd.mro) ?_ rfl X hsu hI hne (by decide) ?_
  · exact fun A Q E s k q => wpAny_bind ((looks_clsIn X hcd) A _ E s k (wpAny_pure q))
  show wpAny _ _ (callWith p3 (.ref hh.objs.size) [] (backTo p3 (starEach (e :: es) _)) []) _ _ _
  rw [hst]
  refine kxs_callWith (i := "ValueError.__init__") (x := x) (by show (false || (backTo p3 (starEach es _)).any (·.1)) = false; rw [hpl2]; rfl) ?_
  refine Calls.evalArgs_plain ?_
  have ev := hta.run p3 _ _ (L2.start N vs) H _ I3 hq
  rw [show (supCx CX P w K mg base N qual scope f cda cc A outer s H E).env = ksEnv qual scope s.heap.objs.size f (.ref cda) cc from rfl, hst] at ev
  refine thn ev fun us s4 ⟨ws, H4, I4, rv, hl4, hx4, q4⟩ => ⟨ClX.pin_at I4, ?_⟩
  obtain ⟨t4, ho4⟩ := exo_at I4.hok hx4
  have hu4 := ClX.pin_at I4
  have hC4 := I4.kIn _ _ hC
  have hlen : us.length ≤ sizeLine := by rw [← Paired.length rv, sizeLine_eq]; omega
  have I5 := ClX.unpin (ClX.unpin I4)
  obtain ⟨h4, g4, d4, tk4, os4⟩ := s4
  refine call_mw hC4 ho4 hu4 hlen fun h' t5 kk hx5 => ?_
  have J := I5.write (t' := tk4) (x := x) (e := x) (o := exo x D none) (by rw [hx4]; exact True.intro) (.inl rfl) kk ⟨_, hx5⟩ (exo_ok hx5)
  have eu : upd H4 x (exo x D none) = H4 := by
    funext b
    by_cases hb : b = x
    · rw [hb, upd_same, hx4]
    · rw [upd_ne hb]
  rw [eu] at J
  exact ⟨H4, J, q4⟩
end
end SupX
set_option Elab.async false
set_option linter.all false
set_option maxRecDepth 100000
set_option maxHeartbeats 2000000
/-! The head's facts by a Hook: as HeadHook4's, and the defs that say super(). -/
namespace HeS
open PySem PySem.Spec PyProof.Rows L2 He
abbrev FnS : Type := Option (Str × Str × Arguments × FuncBody × Scope × Addr × List Str × Addr)
def fnS (K : PySem.W.Frag) (p : Defn) : FnS := match K.lookup (fAd K p) with
  | some ⟨_, _, .func fd, _⟩ => some (fd.name, fd.qualname, fd.params, fd.body, fd.scope, fd.globals, fd.closure.map (·.1), fd.builtins)
  | _ => none
/-- the __init__ of the class x, saying super() -/
structure DefS where
  cls : Str
  qual : Str
  params : Arguments
  body : List Stmt
  scope : Scope
def DefS.at_ (d : DefS) : Defn := (d.cls, some "__init__")
def DefS.val (d : DefS) : FnS := some ("__init__", d.qual, d.params, .stmts d.body, d.scope, mainGlobals, ["__class__"], builtinsNs)
def cellF (fd : FuncData) : Addr := match fd.closure with
  | [(_, c)] => c
  | _ => 0
def cellOf (K : PySem.W.Frag) (p : Defn) : Addr := match K.lookup (fAd K p) with
  | some ⟨_, _, .func fd, _⟩ => cellF fd
  | _ => 0
def strB (fl : Str) (o : Option Value) : Bool := match o with
  | some (.str z _) => fl == z
  | _ => false
def fileB (K : PySem.W.Frag) (fl : Str) (c : Addr) : Bool := match K.lookup c with
  | some ⟨_, _, .fields vs, _⟩ => strB fl vs[2]?
  | _ => false
def dNone (v : Value) : Bool := match v with
  | .none => true
  | _ => false
def codB (K : PySem.W.Frag) (fl q : Str) (v : Value) : Bool := match v with
  | .ref c => PySem.W.codeIn K (.ref c) q && fileB K fl c
  | _ => false
def fdB (K : PySem.W.Frag) (fl q : Str) (fd : FuncData) : Bool := dNone fd.defaults && codB K fl q fd.code
def fnB (K : PySem.W.Frag) (fl q : Str) (a : Addr) : Bool := match K.lookup a with
  | some ⟨_, _, .func fd, _⟩ => fdB K fl q fd
  | _ => false
def celB (K : PySem.W.Frag) (a D : Addr) : Bool := match K.lookup a with
  | some ⟨_, _, .cell (some (.ref D')), _⟩ => decide (D' = D)
  | _ => false
def supB (K : PySem.W.Frag) (fl : Str) (d : DefS) : Bool :=
  fnB K fl d.qual (fAd K d.at_) && (celB K (cellOf K d.at_) (ga K d.cls) && ((PySem.W.clsIn K (ga K d.cls)).isSome && (decide (PySem.W.mroIn K (ga K d.cls) (.ref (ga K d.cls)) = some true) && eqO (PySem.W.nsIn K cStatics "thirdparty.any") (some none))))
theorem celB_ok {K : PySem.W.Frag} {a D : Addr} (h : celB K a D = true) : ∃ (cl : Value) (cld : Option Addr) (csl : Array (Option Value)), K.lookup a = some ⟨cl, cld, .cell (some (.ref D)), csl⟩ := by
  unfold celB at h
  cases q : K.lookup a with
  | none => rw [q] at h; cases h
  | some o =>
    obtain ⟨oc, od, dt, sl⟩ := o
    rw [q] at h
    cases dt with
    | cell v =>
      cases v with
      | none => cases h
      | some v =>
        cases v with
        | ref D' =>
          have z : D' = D := of_decide_eq_true h
          exact ⟨oc, od, sl, by rw [z]⟩
        | _ => cases h
    | _ => cases h
theorem fileB_ok {K : PySem.W.Frag} {fl : Str} {a : Addr} (h : fileB K fl a = true) : ∃ (ccl : Value) (cdd : Option Addr) (vs : Array Value) (ccs : Array (Option Value)) (z : Str) (tf : Tok), K.lookup a = some ⟨ccl, cdd, .fields vs, ccs⟩ ∧ vs[2]? = some (.str z tf) ∧ (fl == z) = true := by
  unfold fileB at h
  cases q : K.lookup a with
  | none => rw [q] at h; cases h
  | some o =>
    obtain ⟨oc, od, dt, sl⟩ := o
    rw [q] at h
    cases dt with
    | fields vs =>
      have h2 : strB fl vs[2]? = true := h
      cases q3 : vs[2]? with
      | none => rw [q3] at h2; cases h2
      | some v =>
        rw [q3] at h2
        cases v with
        | str z tf => exact ⟨oc, od, vs, sl, z, tf, rfl, q3, h2⟩
        | _ => cases h2
    | _ => cases h
theorem sup_ok {prog : Program} {K : PySem.W.Frag} {mg : Str → Option Value} {d : DefS} (e : fnS K d.at_ = d.val) (c : supB K prog.main.file d = true) (hs : mg "super" = none) (ht : (prog.main.scope.names.lookup ("super" : Str)).isSome = false)
    (ha : ∃ ar, (d.params.posonlyargs ++ d.params.args).head? = some ar ∧ ar.arg = ("self" : Str)) :
    ∃ (cda : Addr) (fd : FuncData), SupX.SupT prog K mg (ga K d.cls) (cellOf K d.at_) cda (fAd K d.at_) d.qual d.params d.body d.scope fd := by
  obtain ⟨c1, c⟩ := ba c
  obtain ⟨c2, c⟩ := ba c
  obtain ⟨c3, c⟩ := ba c
  obtain ⟨c4, c5⟩ := ba c
  unfold fnS at e
  unfold fnB at c1
  have hcell := celB_ok c2
  cases q : K.lookup (fAd K d.at_) with
  | none => rw [q] at c1; cases c1
  | some o =>
    obtain ⟨oc, od, dt, osl⟩ := o
    rw [q] at c1 e
    cases dt with
    | func fd =>
      have hce : cellOf K d.at_ = cellF fd := by
        unfold cellOf
        rw [q]
      obtain ⟨n1, n2, n3, n4, n5, n6, n7, n8, n9, n10, n11, n12, n13, n14, n15⟩ := fd
      have e2 : (some (n1, n2, n3, n4, n5, n6, n7.map (·.1), n15) : FnS) = some (("__init__" : Str), d.qual, d.params, FuncBody.stmts d.body, d.scope, mainGlobals, [("__class__" : Str)], builtinsNs) := e
      simp only [Option.some.injEq, Prod.mk.injEq] at e2
      obtain ⟨h1, h2, h3, h4, h5, h6, h7, h8⟩ := e2
      subst h1 h2 h3 h4 h5 h6 h8
      obtain ⟨d1, d2⟩ := ba (show (dNone n8 && codB K prog.main.file d.qual n13) = true from c1)
      have hn8 : n8 = .none := by
        cases n8 with
        | none => rfl
        | _ => cases d1
      subst hn8
      cases n13 with
      | ref cda =>
        obtain ⟨d3, d4⟩ := ba (show (PySem.W.codeIn K (.ref cda) d.qual && fileB K prog.main.file cda) = true from d2)
        obtain ⟨cc, hcc⟩ : ∃ cc, n7 = [(("__class__" : Str), cc)] := by
          cases n7 with
          | nil => cases h7
          | cons p r =>
            obtain ⟨x, a⟩ := p
            cases r with
            | nil =>
              have h7' : [x] = [("__class__" : Str)] := h7
              injection h7' with h7'
              exact ⟨a, by rw [h7']⟩
            | cons p2 r2 =>
              have h7' : x :: p2.1 :: r2.map (·.1) = [("__class__" : Str)] := h7
              injection h7' with _ h9
              cases h9
        subst hcc
        have hce' : cellOf K d.at_ = cc := hce
        refine ⟨cda, _, ⟨⟨oc, od, n9, n10, n11, n12, n14, osl, rfl, ?_⟩, d3, fileB_ok d4, hcell, Option.isSome_iff_exists.mp c3, of_decide_eq_true c4, hs, ht, eqO_ok c5, ha⟩⟩
        rw [hce', q]
      | _ => cases d2
    | _ => cases c1
/-! ### the Hook -/
def asS (g : Addr → Option Obj) (n : Nat) : List Addr := cStatics :: asD g n
abbrev AlS : Type := AlX × List FnS
/-- what is told -/
structure SaysS (fa : List Fa) (fn : List DefD) (ds : List DefS) (tf : List Defn) (ex : PySem.W.Frag → Bool) (w : World) (h : Heap) (K : PySem.W.Frag) : Prop where
  x : SaysX fa fn [] tf ex w h K
  s : ds.map (fun d => fnS K d.at_) = ds.map DefS.val
def obsS (n : Nat) (fa : List Fa) (fn : List DefD) (ds : List DefS) (tf : List Defn) (ex : PySem.W.Frag → Bool) (g : Addr → Option Obj) : AlS :=
  ((obsT fa fn [] (frT g (asS g n)), ex (frT g (asS g n)) && tabsB g tf (frT g (asS g n))), ds.map fun d => fnS (frT g (asS g n)) d.at_)
def valS (fn : List DefD) (ds : List DefS) (w : World) : AlS := (valX fn [] w, ds.map DefS.val)
theorem saysS_of {n : Nat} {fa : List Fa} {fn : List DefD} {ds : List DefS} {tf : List Defn} {ex : PySem.W.Frag → Bool} {w : World} {h : Heap} (e : obsS n fa fn ds tf ex h.get? = valS fn ds w) : SaysS fa fn ds tf ex w h (frT h.get? (asS h.get? n)) := by
  have e0 : (obsT fa fn [] (frT h.get? (asS h.get? n)), ex (frT h.get? (asS h.get? n)) && tabsB h.get? tf (frT h.get? (asS h.get? n))) = valX fn [] w := congrArg (fun z : AlS => z.1) e
  have e1 : obsT fa fn [] (frT h.get? (asS h.get? n)) = valT fn [] w := congrArg (fun z : AlX => z.1) e0
  have e2 : (ex (frT h.get? (asS h.get? n)) && tabsB h.get? tf (frT h.get? (asS h.get? n))) = true := congrArg (fun z : AlX => z.2) e0
  obtain ⟨h1, h2⟩ := ba e2
  have key : ∀ p ∈ tf, PySem.W.codeHdIn (frT h.get? (asS h.get? n)) (cT (frT h.get? (asS h.get? n)) p).1 (cT (frT h.get? (asS h.get? n)) p).2 = true ∧ ∃ o, h.get? (cT (frT h.get? (asS h.get? n)) p).2 = some o ∧ emptyTab o = true := fun p hp => by
    obtain ⟨h3, h4⟩ := ba (List.all_eq_true.mp h2 p hp)
    refine ⟨h3, ?_⟩
    cases q : h.get? (cT (frT h.get? (asS h.get? n)) p).2 with
    | none =>
      rw [q] at h4
      cases h4
    | some o =>
      rw [q] at h4
      exact ⟨o, rfl, h4⟩
  exact ⟨⟨e1, h1, fun p hp => (key p hp).1, fun p hp => by
    obtain ⟨_, o, q, z⟩ := key p hp
    exact frT_none q z, fun p hp => by
    obtain ⟨_, o, q, z⟩ := key p hp
    rw [q, emptyTab_eq z]⟩, congrArg (fun z : AlS => z.2) e⟩
def hookS (n : Nat) (fa : List Fa) (fn : List DefD) (ds : List DefS) (tf : List Defn) (ex : PySem.W.Frag → Bool) : PySem.W.Hook where
  α := AlS
  obs := fun s => obsS n fa fn ds tf ex s.heap.get?
  val := fun w => valS fn ds w
  says := fun w h => ∃ K : PySem.W.Frag, K.In h ∧ SaysS fa fn ds tf ex w h K
  of := fun _ _ e => ⟨_, frT_in, saysS_of e⟩
  keeps := fun _ _ _ ⟨K, hK, c⟩ k => ⟨K, PySem.W.Frag.In.keeps hK k, ⟨⟨c.x.t, c.x.more, c.x.hd, c.x.out, fun p hp => k _ _ (c.x.empty p hp)⟩, c.s⟩⟩
theorem obsS_eq {n : Nat} {fa : List Fa} {fn : List DefD} {ds : List DefS} {tf : List Defn} {ex : PySem.W.Frag → Bool} {g : Addr → Option Obj} {s : Shared} (h : ∀ a, g a = s.heap.get? a) : obsS n fa fn ds tf ex g = (hookS n fa fn ds tf ex).obs s := by
  have e : g = s.heap.get? := funext h
  rw [e] <;> rfl
theorem SaysS.sup {fa : List Fa} {fn : List DefD} {ds : List DefS} {tf : List Defn} {ex : PySem.W.Frag → Bool} {w : World} {h : Heap} {K : PySem.W.Frag} (c : SaysS fa fn ds tf ex w h K) {d : DefS} (hd : d ∈ ds) : fnS K d.at_ = d.val := by
  obtain ⟨i, hi, e⟩ := List.mem_iff_getElem.mp hd
  have e2 : (ds.map fun d => fnS K d.at_)[i]? = (ds.map DefS.val)[i]? := by rw [c.s]
  rw [List.getElem?_map, List.getElem?_map, List.getElem?_eq_getElem hi, e] at e2
  exact Option.some.inj e2
/-- no list stands in the written part -/
def noL (K : PySem.W.Frag) : Bool := K.all fun q => match q.2.cls with
  | .type n => !(n == "list")
  | _ => true
theorem noL_ok {K : PySem.W.Frag} (h : noL K = true) {a : Addr} {o : Obj} (e : K.lookup a = some o) : o.cls ≠ .type "list" := fun z => by
  have m := List.all_eq_true.mp h _ (lookup_mem e)
  simp only [z] at m
  cases m
end HeS
set_option Elab.async false
set_option linter.all false
set_option maxRecDepth 100000
set_option maxHeartbeats 2000000
/-! The head's facts by a Hook whose addresses are written down (hookS, of which the search is left out). -/
namespace HeS
open PySem PySem.Spec PyProof.Rows L2 He
def obsA (as : List Addr) (fa : List Fa) (fn : List DefD) (ds : List DefS) (tf : List Defn) (ex : PySem.W.Frag → Bool) (g : Addr → Option Obj) : AlS :=
  ((obsT fa fn [] (frT g as), ex (frT g as) && tabsB g tf (frT g as)), ds.map fun d => fnS (frT g as) d.at_)
theorem saysA_of {as : List Addr} {fa : List Fa} {fn : List DefD} {ds : List DefS} {tf : List Defn} {ex : PySem.W.Frag → Bool} {w : World} {h : Heap} (e : obsA as fa fn ds tf ex h.get? = valS fn ds w) : SaysS fa fn ds tf ex w h (frT h.get? as) := by
  have e0 : (obsT fa fn [] (frT h.get? as), ex (frT h.get? as) && tabsB h.get? tf (frT h.get? as)) = valX fn [] w := congrArg (fun z : AlS => z.1) e
  have e1 : obsT fa fn [] (frT h.get? as) = valT fn [] w := congrArg (fun z : AlX => z.1) e0
  have e2 : (ex (frT h.get? as) && tabsB h.get? tf (frT h.get? as)) = true := congrArg (fun z : AlX => z.2) e0
  obtain ⟨h1, h2⟩ := ba e2
  have key : ∀ p ∈ tf, PySem.W.codeHdIn (frT h.get? as) (cT (frT h.get? as) p).1 (cT (frT h.get? as) p).2 = true ∧ ∃ o, h.get? (cT (frT h.get? as) p).2 = some o ∧ emptyTab o = true := fun p hp => by
    obtain ⟨h3, h4⟩ := ba (List.all_eq_true.mp h2 p hp)
    refine ⟨h3, ?_⟩
    cases q : h.get? (cT (frT h.get? as) p).2 with
    | none =>
      rw [q] at h4
      cases h4
    | some o =>
      rw [q] at h4
      exact ⟨o, rfl, h4⟩
  exact ⟨⟨e1, h1, fun p hp => (key p hp).1, fun p hp => by
    obtain ⟨_, o, q, z⟩ := key p hp
    exact frT_none q z, fun p hp => by
    obtain ⟨_, o, q, z⟩ := key p hp
    rw [q, emptyTab_eq z]⟩, congrArg (fun z : AlS => z.2) e⟩
def hookA (as : List Addr) (fa : List Fa) (fn : List DefD) (ds : List DefS) (tf : List Defn) (ex : PySem.W.Frag → Bool) : PySem.W.Hook where
  α := AlS
  obs := fun s => obsA as fa fn ds tf ex s.heap.get?
  val := fun w => valS fn ds w
  says := fun w h => ∃ K : PySem.W.Frag, K.In h ∧ SaysS fa fn ds tf ex w h K
  of := fun _ _ e => ⟨_, frT_in, saysA_of e⟩
  keeps := fun _ _ _ ⟨K, hK, c⟩ k => ⟨K, PySem.W.Frag.In.keeps hK k, ⟨⟨c.x.t, c.x.more, c.x.hd, c.x.out, fun p hp => k _ _ (c.x.empty p hp)⟩, c.s⟩⟩
theorem obsA_eq {as : List Addr} {fa : List Fa} {fn : List DefD} {ds : List DefS} {tf : List Defn} {ex : PySem.W.Frag → Bool} {g : Addr → Option Obj} {s : Shared} (h : ∀ a, g a = s.heap.get? a) : obsA as fa fn ds tf ex g = (hookA as fa fn ds tf ex).obs s := by
  have e : g = s.heap.get? := funext h
  rw [e] <;> rfl
/-! ### a run looked at in parts -/
theorem join2 {S α β γ : Type} {o : Option S} {f : S → α} {f' : S → β} {g : S → γ} {a : α} {b : β} {c : γ} (h1 : o.map (fun s => (f s, f' s)) = some (a, b)) (h2 : o.map g = some c) : o.map (fun s => (f s, f' s, g s)) = some (a, b, c) := by
  obtain ⟨s, hs, e⟩ := Option.map_eq_some_iff.mp h1
  subst hs
  injection e with e1 e2
  have e3 : g s = c := Option.some.inj h2
  show some (f s, f' s, g s) = some (a, b, c)
  rw [e1, e2, e3]
theorem joinA {S : Type} {o : Option S} {α β γ : Type} {f : S → α} {g : S → β} {h : S → γ} {a : α} {b : β} {c : γ} (h1 : o.map f = some a) (h2 : o.map g = some b) (h3 : o.map h = some c) : o.map (fun s => ((f s, g s), h s)) = some ((a, b), c) := by
  obtain ⟨s, hs, e⟩ := Option.map_eq_some_iff.mp h1
  subst hs
  have e2 : g s = b := Option.some.inj h2
  have e3 : h s = c := Option.some.inj h3
  show some ((f s, g s), h s) = some ((a, b), c)
  rw [e, e2, e3]
end HeS
set_option Elab.async false
set_option linter.all false
set_option maxRecDepth 100000
set_option maxHeartbeats 2000000
/-! A program read as a function on plain data: values D, a heap of cells LH told by numbers, results R. -/
namespace DI
open PySem PySem.Spec PyProof.Rows L2 GxR
/-- a value: tuples are trees, a list or an instance is told by its number -/
inductive D where
  | int (i : Int) | bl (b : Bool) | non | str (x : Str) | tup (xs : List D) | ref (n : Nat) | ty (n : String) | cls (C : Addr)
inductive Cell where
  | lst (mu : Bool) (xs : List D)
  | ins (C : Addr) (fs : List (Str × D))
abbrev LH := List Cell
structure Ex where
  cls : Value
  fs : List (Str × D)
inductive R (α : Type) where
  | ok (a : α) (L : LH)
  | exc (x : Ex) (L : LH)
  | bad
namespace R
def bind {α β : Type} (r : R α) (f : α → LH → R β) : R β := match r with
  | ok a L => f a L
  | exc x L => exc x L
  | bad => bad
end R
abbrev Mu := Nat → Addr
/-! ### what stands for what -/
mutual
def Rp (μ : Mu) (k : Nat) (H : Hp) : D → V → Prop
  | .int i, v => v = .int i
  | .bl b, v => v = .bl b
  | .non, v => v = .non
  | .str x, v => v = .str x
  | .tup ds, v => ∃ a vs, v = .ref a ∧ H a = some (.tup vs) ∧ Rps μ k H ds vs
  | .ref n, v => n < k ∧ v = .ref (μ n)
  | .ty n, v => v = .ty n
  | .cls C, v => v = .ref C
def Rps (μ : Mu) (k : Nat) (H : Hp) : List D → List V → Prop
  | [], vs => vs = []
  | d :: ds, vs => ∃ v ws, vs = v :: ws ∧ Rp μ k H d v ∧ Rps μ k H ds ws
end
structure Xt (μ : Mu) (k : Nat) (H : Hp) (μ' : Mu) (k' : Nat) (H' : Hp) : Prop where
  le : k ≤ k'
  mu : ∀ i, i < k → μ' i = μ i
  tup : ∀ a vs, H a = some (.tup vs) → H' a = some (.tup vs)
theorem Xt.refl {μ : Mu} {k : Nat} {H : Hp} : Xt μ k H μ k H := ⟨Nat.le_refl _, fun _ _ => rfl, fun _ _ h => h⟩
theorem Xt.trans {μ μ1 μ2 : Mu} {k k1 k2 : Nat} {H H1 H2 : Hp} (a : Xt μ k H μ1 k1 H1) (b : Xt μ1 k1 H1 μ2 k2 H2) : Xt μ k H μ2 k2 H2 :=
  ⟨Nat.le_trans a.le b.le, fun i h => (b.mu i (Nat.lt_of_lt_of_le h a.le)).trans (a.mu i h), fun x vs h => b.tup x vs (a.tup x vs h)⟩
mutual
theorem Rp.mono {μ μ' : Mu} {k k' : Nat} {H H' : Hp} (x : Xt μ k H μ' k' H') : ∀ {d : D} {v : V}, Rp μ k H d v → Rp μ' k' H' d v
  | .int _, _, h => h
  | .bl _, _, h => h
  | .non, _, h => h
  | .str _, _, h => h
  | .tup ds, _, h => by
    obtain ⟨a, vs, e, ha, hs⟩ := h
    exact ⟨a, vs, e, x.tup _ _ ha, Rps.mono x hs⟩
  | .ref n, _, h => ⟨Nat.lt_of_lt_of_le h.1 x.le, by rw [x.mu n h.1]; exact h.2⟩
  | .ty _, _, h => h
  | .cls _, _, h => h
theorem Rps.mono {μ μ' : Mu} {k k' : Nat} {H H' : Hp} (x : Xt μ k H μ' k' H') : ∀ {ds : List D} {vs : List V}, Rps μ k H ds vs → Rps μ' k' H' ds vs
  | [], _, h => h
  | d :: ds, _, h => by
    obtain ⟨v, ws, e, h1, h2⟩ := h
    exact ⟨v, ws, e, Rp.mono x h1, Rps.mono x h2⟩
end
section
variable {μ : Mu} {k : Nat} {H : Hp}
theorem Rps.length : ∀ {ds : List D} {vs : List V}, Rps μ k H ds vs → vs.length = ds.length
  | [], _, h => by rw [h]; rfl
  | d :: ds, _, ⟨v, ws, e, _, h2⟩ => by rw [e, List.length_cons, List.length_cons, Rps.length h2]
theorem Rps.get : ∀ {ds : List D} {vs : List V} {i : Nat} {d : D}, Rps μ k H ds vs → ds[i]? = some d → ∃ v, vs[i]? = some v ∧ Rp μ k H d v
  | [], _, _, _, _, e => by simp at e
  | d :: ds, _, 0, _, ⟨v, ws, e, h1, h2⟩, q => by
    simp at q
    subst q e
    exact ⟨v, rfl, h1⟩
  | d :: ds, _, i + 1, _, ⟨v, ws, e, h1, h2⟩, q => by
    obtain ⟨u, a, b⟩ := Rps.get h2 (show ds[i]? = some _ by simpa using q)
    subst e
    exact ⟨u, by simpa using a, b⟩
theorem Rps.get' {ds : List D} {vs : List V} {i : Nat} {v : V} (h : Rps μ k H ds vs) (e : vs[i]? = some v) : ∃ d, ds[i]? = some d ∧ Rp μ k H d v := by
  have hl := h.length
  obtain ⟨hi, _⟩ := List.getElem?_eq_some_iff.mp e
  have hd : ds[i]? = some ds[i] := List.getElem?_eq_getElem (by omega)
  obtain ⟨u, a, b⟩ := h.get hd
  rw [e] at a
  cases a
  exact ⟨_, hd, b⟩
theorem Rps.append : ∀ {ds es : List D} {vs ws : List V}, Rps μ k H ds vs → Rps μ k H es ws → Rps μ k H (ds ++ es) (vs ++ ws)
  | [], _, _, _, h, g => by rw [h]; exact g
  | d :: ds, _, _, _, ⟨v, us, e, h1, h2⟩, g => by
    subst e
    exact ⟨v, _, rfl, h1, Rps.append h2 g⟩
theorem Rps.set {d : D} {v : V} (r : Rp μ k H d v) : ∀ {ds : List D} {vs : List V} (i : Nat), Rps μ k H ds vs → Rps μ k H (ds.set i d) (vs.set i v)
  | [], _, _, h => by rw [h]; rfl
  | _ :: ds, _, 0, ⟨u, ws, e, h1, h2⟩ => by
    subst e
    exact ⟨v, ws, rfl, r, h2⟩
  | _ :: ds, _, i + 1, ⟨u, ws, e, h1, h2⟩ => by
    subst e
    exact ⟨u, _, rfl, h1, Rps.set r i h2⟩
theorem Rps.take : ∀ {ds : List D} {vs : List V} (n : Nat), Rps μ k H ds vs → Rps μ k H (ds.take n) (vs.take n)
  | _, _, 0, _ => by simp [Rps]
  | [], _, n + 1, h => by rw [h]; rfl
  | _ :: ds, _, n + 1, ⟨u, ws, e, h1, h2⟩ => by
    subst e
    exact ⟨u, _, rfl, h1, Rps.take n h2⟩
theorem Rps.drop : ∀ {ds : List D} {vs : List V} (n : Nat), Rps μ k H ds vs → Rps μ k H (ds.drop n) (vs.drop n)
  | _, _, 0, h => h
  | [], _, n + 1, h => by rw [h]; rfl
  | _ :: ds, _, n + 1, ⟨u, ws, e, h1, h2⟩ => by
    subst e
    exact Rps.drop n h2
theorem Rps.one {d : D} {v : V} (r : Rp μ k H d v) : Rps μ k H [d] [v] := ⟨v, [], rfl, r, rfl⟩
end
/-- the fields of an instance -/
def RpF (μ : Mu) (k : Nat) (H : Hp) : List (Str × D) → List (Str × V) → Prop
  | [], vs => vs = []
  | (f, d) :: fs, vs => ∃ v ws, vs = (f, v) :: ws ∧ Rp μ k H d v ∧ RpF μ k H fs ws
theorem RpF.mono {μ μ' : Mu} {k k' : Nat} {H H' : Hp} (x : Xt μ k H μ' k' H') : ∀ {fs : List (Str × D)} {vs : List (Str × V)}, RpF μ k H fs vs → RpF μ' k' H' fs vs
  | [], _, h => h
  | (f, d) :: fs, _, ⟨v, ws, e, h1, h2⟩ => ⟨v, ws, e, h1.mono x, RpF.mono x h2⟩
theorem RpF.look {μ : Mu} {k : Nat} {H : Hp} {f : Str} : ∀ {fs : List (Str × D)} {vs : List (Str × V)}, RpF μ k H fs vs → (∀ d, fs.lookup f = some d → ∃ v, vs.lookup f = some v ∧ Rp μ k H d v) ∧ (fs.lookup f = none → vs.lookup f = none)
  | [], _, h => by
    rw [h]
    exact ⟨fun _ e => (nomatch e), fun _ => rfl⟩
  | (g, d) :: fs, _, ⟨v, ws, e, h1, h2⟩ => by
    subst e
    obtain ⟨a, b⟩ := RpF.look (f := f) h2
    cases hb : f == g with
    | true =>
      refine ⟨fun d' e => ?_, fun e => ?_⟩
      · rw [List.lookup_cons, hb] at e
        cases e
        exact ⟨v, by rw [List.lookup_cons, hb], h1⟩
      · rw [List.lookup_cons, hb] at e
        cases e
    | false =>
      refine ⟨fun d' e => ?_, fun e => ?_⟩
      · rw [List.lookup_cons, hb] at e
        obtain ⟨u, p, q⟩ := a d' e
        exact ⟨u, by rw [List.lookup_cons, hb]; exact p, q⟩
      · rw [List.lookup_cons, hb] at e ⊢
        exact b e
theorem RpF.length {μ : Mu} {k : Nat} {H : Hp} : ∀ {fs : List (Str × D)} {vs : List (Str × V)}, RpF μ k H fs vs → vs.length = fs.length
  | [], _, h => by rw [h]; rfl
  | (g, d) :: fs, _, ⟨v, ws, e, _, h2⟩ => by rw [e, List.length_cons, List.length_cons, RpF.length h2]
def COk (μ : Mu) (k : Nat) (H : Hp) (a : Addr) : Cell → Prop
  | .lst true ds => ∃ vs, H a = some (.lst vs) ∧ Rps μ k H ds vs
  | .lst false ds => ∃ o vs, H a = some (.frz o (.lst vs)) ∧ Rps μ k H ds vs
  | .ins C fs => ∃ dx fvs, H a = some (.ins C dx fvs) ∧ RpF μ k H fs fvs
/-- where the tables stand -/
abbrev Tb := List Addr
def Tbs (T : Tb) (H : Hp) : Prop := ∀ P ∈ T, TabG H P
structure Hg (T : Tb) (μ : Mu) (L : LH) (H : Hp) : Prop where
  inj : ∀ i j, i < L.length → j < L.length → μ i = μ j → i = j
  cel : ∀ i c, L[i]? = some c → COk μ L.length H (μ i) c
  tab : Tbs T H
theorem COk.there {μ : Mu} {k : Nat} {H : Hp} {a : Addr} {c : Cell} (h : COk μ k H a c) : ∃ o, H a = some o ∧ (∀ ps, o ≠ .tbl ps) ∧ ∀ xs, o ≠ .tup xs := by
  cases c with
  | lst m ds =>
    cases m with
    | true =>
      obtain ⟨vs, e, _⟩ := h
      exact ⟨_, e, fun _ z => (nomatch z), fun _ z => (nomatch z)⟩
    | false =>
      obtain ⟨o, vs, e, _⟩ := h
      exact ⟨_, e, fun _ z => (nomatch z), fun _ z => (nomatch z)⟩
  | ins C fs =>
    obtain ⟨dx, fvs, e, _⟩ := h
    exact ⟨_, e, fun _ z => (nomatch z), fun _ z => (nomatch z)⟩
theorem Tbs.upd {T : Tb} {H : Hp} {p : Addr} {o : HO} (h : Tbs T H) (hn : ∀ ps, H p ≠ some (.tbl ps)) : Tbs T (upd H p o) := fun P hP => by
  obtain ⟨ps, e, t⟩ := h P hP
  refine ⟨ps, ?_, t⟩
  rw [upd_ne (fun z => hn ps (by rw [← z]; exact e))]
  exact e
theorem COk.mono {μ μ' : Mu} {k k' : Nat} {H H' : Hp} {a : Addr} {c : Cell} (x : Xt μ k H μ' k' H') (ha : H' a = H a) (h : COk μ k H a c) : COk μ' k' H' a c := by
  cases c with
  | lst m ds =>
    cases m with
    | true =>
      obtain ⟨vs, e, r⟩ := h
      exact ⟨vs, ha.trans e, r.mono x⟩
    | false =>
      obtain ⟨o, vs, e, r⟩ := h
      exact ⟨o, vs, ha.trans e, r.mono x⟩
  | ins C fs =>
    obtain ⟨dx, fvs, e, r⟩ := h
    exact ⟨dx, fvs, ha.trans e, r.mono x⟩
theorem xt_upd {μ : Mu} {k : Nat} {H : Hp} {p : Addr} {o : HO} (hn : H p = none) : Xt μ k H μ k (upd H p o) := ⟨Nat.le_refl _, fun _ _ => rfl, fun a vs e => by
  rw [upd_ne (ne_of_none e hn)]
  exact e⟩
/-- an object that no cell is -/
theorem Hg.junk {T : Tb} {μ : Mu} {L : LH} {H : Hp} {p : Addr} {o : HO} (g : Hg T μ L H) (hn : H p = none) : Hg T μ L (upd H p o) :=
  ⟨g.inj, fun i c e => (g.cel i c e).mono (xt_upd hn) (upd_ne (by
    obtain ⟨u, hu, _⟩ := (g.cel i c e).there
    exact ne_of_none hu hn)), g.tab.upd fun ps z => by rw [hn] at z; cases z⟩
/-- a further map, a new cell at p -/
def muP (μ : Mu) (k : Nat) (p : Addr) : Mu := fun i => if i = k then p else μ i
theorem muP_new {μ : Mu} {k : Nat} {p : Addr} : muP μ k p k = p := if_pos rfl
theorem muP_old {μ : Mu} {k i : Nat} {p : Addr} (h : i < k) : muP μ k p i = μ i := if_neg (Nat.ne_of_lt h)
theorem xt_new {μ : Mu} {k : Nat} {H H' : Hp} {p : Addr} (ht : ∀ a vs, H a = some (.tup vs) → H' a = some (.tup vs)) : Xt μ k H (muP μ k p) (k + 1) H' := ⟨Nat.le_succ _, fun _ h => muP_old h, ht⟩
/-- H' is H but at p, where nothing stood, and at what no cell is -/
theorem Hg.cell {T : Tb} {μ : Mu} {L : LH} {H H' : Hp} {p : Addr} {c : Cell} (g : Hg T μ L H) (hn : H p = none) (hk : ∀ b o, H b = some o → H' b = some o) (hc : COk (muP μ L.length p) (L.length + 1) H' p c) : Hg T (muP μ L.length p) (L ++ [c]) H' := by
  have hl : (L ++ [c]).length = L.length + 1 := by simp
  have x : Xt μ L.length H (muP μ L.length p) (L.length + 1) H' := xt_new fun a vs e => hk a _ e
  have old : ∀ i, i < L.length → μ i ≠ p := fun i h z => by
    obtain ⟨u, hu, _⟩ := (g.cel i L[i] (List.getElem?_eq_getElem h)).there
    rw [z, hn] at hu
    cases hu
  refine ⟨fun i j hi hj e => ?_, fun i d e => ?_, fun P hP => ?_⟩
  · rw [hl] at hi hj
    by_cases h1 : i = L.length
    · by_cases h2 : j = L.length
      · omega
      · subst h1
        rw [muP_new, muP_old (by omega)] at e
        exact absurd e.symm (old j (by omega))
    · by_cases h2 : j = L.length
      · subst h2
        rw [muP_new, muP_old (by omega)] at e
        exact absurd e (old i (by omega))
      · rw [muP_old (by omega), muP_old (by omega)] at e
        exact g.inj i j (by omega) (by omega) e
  · rw [hl]
    by_cases h1 : i < L.length
    · rw [List.getElem?_append_left h1] at e
      obtain ⟨u, hu, _⟩ := (g.cel i d e).there
      have z := (g.cel i d e).mono x (by rw [hu]; exact hk _ _ hu)
      rw [muP_old h1]
      exact z
    · have h2 : i = L.length := by
        have := (List.getElem?_eq_some_iff.mp e).1
        rw [hl] at this
        omega
      subst h2
      simp at e
      subst e
      rw [muP_new]
      exact hc
  · obtain ⟨ps, e, t⟩ := g.tab P hP
    exact ⟨ps, hk _ _ e, t⟩
/-- the cell n written -/
theorem Hg.write {T : Tb} {μ : Mu} {L : LH} {H : Hp} {n : Nat} {c0 c : Cell} {o : HO} (g : Hg T μ L H) (hn : L[n]? = some c0) (hc : COk μ L.length (upd H (μ n) o) (μ n) c) : Hg T μ (L.set n c) (upd H (μ n) o) ∧ Xt μ L.length H μ (L.set n c).length (upd H (μ n) o) := by
  obtain ⟨u, hu, hu2, hu3⟩ := (g.cel n c0 hn).there
  have hl : (L.set n c).length = L.length := List.length_set
  obtain ⟨hnl, _⟩ := List.getElem?_eq_some_iff.mp hn
  have x : Xt μ L.length H μ L.length (upd H (μ n) o) := ⟨Nat.le_refl _, fun _ _ => rfl, fun a vs e => by
    rw [upd_ne (fun z => by subst z; rw [hu] at e; cases e; exact hu3 _ rfl)]
    exact e⟩
  rw [hl]
  refine ⟨⟨fun i j hi hj e => g.inj i j (by omega) (by omega) e, fun i d e => ?_, g.tab.upd fun ps z => by rw [hu] at z; cases z; exact hu2 _ rfl⟩, x⟩
  rw [hl]
  by_cases h : n = i
  · subst h
    rw [List.getElem?_set_self hnl] at e
    cases e
    exact hc
  · rw [List.getElem?_set_ne h] at e
    obtain ⟨hil, _⟩ := List.getElem?_eq_some_iff.mp e
    exact (g.cel i d e).mono x (upd_ne fun z => h (g.inj n i hnl hil z.symm))
/-! ### the slots -/
abbrev Sl := List (Option D)
structure SOk (μ : Mu) (k : Nat) (H : Hp) (env : Sl) (σ : List (Option V)) : Prop where
  len : σ.length = env.length
  at_ : ∀ (i : Nat) (d : D), env[i]? = some (some d) → ∃ v, σ[i]? = some (some v) ∧ Rp μ k H d v
theorem SOk.mono {μ μ' : Mu} {k k' : Nat} {H H' : Hp} {env : Sl} {σ : L2.St} (x : Xt μ k H μ' k' H') (h : SOk μ k H env σ) : SOk μ' k' H' env σ := ⟨h.len, fun i d e => by
  obtain ⟨v, a, b⟩ := h.at_ i d e
  exact ⟨v, a, b.mono x⟩⟩
theorem SOk.set {μ : Mu} {k : Nat} {H : Hp} {env : Sl} {σ : L2.St} {i : Nat} {d : D} {v : V} (h : SOk μ k H env σ) (r : Rp μ k H d v) : SOk μ k H (env.set i (some d)) (σ.set i (some v)) := ⟨by rw [List.length_set, List.length_set, h.len], fun j d' e => by
  by_cases z : i = j
  · subst z
    have hl : i < env.length := by
      have := (List.getElem?_eq_some_iff.mp e).1
      rwa [List.length_set] at this
    rw [List.getElem?_set_self hl] at e
    cases e
    exact ⟨v, List.getElem?_set_self (by rw [h.len]; exact hl), r⟩
  · rw [List.getElem?_set_ne z] at e
    rw [List.getElem?_set_ne z]
    exact h.at_ j d' e⟩
/-! ### exceptions -/
def XRp (μ : Mu) (k : Nat) (H : Hp) (x : Ex) (c : Value) (d : Option Addr) : Prop := c = x.cls ∧ (d = none ∧ x.fs = [] ∨ ∃ dx fvs, d = some dx ∧ H dx = some (.xd fvs) ∧ RpF μ k H x.fs fvs)
/-! ### what follows a result -/
def Fin {α β : Type} (rel : Mu → Nat → Hp → α → β → Prop) (T : Tb) (W : Value → Option Addr → Hp → Prop) (μ : Mu) (k : Nat) (H : Hp) (r : R α) (Q : β → Hp → Prop) : Prop := match r with
  | .ok a L => ∀ μ' H' b, Xt μ k H μ' L.length H' → Hg T μ' L H' → rel μ' L.length H' a b → Q b H'
  | .exc x L => ∀ μ' H' c d, Xt μ k H μ' L.length H' → Hg T μ' L H' → XRp μ' L.length H' x c d → W c d H'
  | .bad => False
theorem Fin.mono {α β : Type} {rel : Mu → Nat → Hp → α → β → Prop} {T : Tb} {W : Value → Option Addr → Hp → Prop} {μ μ1 : Mu} {k k1 : Nat} {H H1 : Hp} {r : R α} {Q : β → Hp → Prop} (x : Xt μ k H μ1 k1 H1) (h : Fin rel T W μ k H r Q) : Fin rel T W μ1 k1 H1 r Q := by
  cases r with
  | ok a L => exact fun μ' H' b y g q => h μ' H' b (x.trans y) g q
  | exc z L => exact fun μ' H' c d y g q => h μ' H' c d (x.trans y) g q
  | bad => exact h
/-- first r, then f -/
theorem Fin.bind {α β α' β' : Type} {relA : Mu → Nat → Hp → α → β → Prop} {rel : Mu → Nat → Hp → α' → β' → Prop} {T : Tb} {W : Value → Option Addr → Hp → Prop} {μ : Mu} {k : Nat} {H : Hp} {r : R α} {f : α → LH → R α'} {Q : β' → Hp → Prop} {Q1 : β → Hp → Prop}
    (h : Fin rel T W μ k H (r.bind f) Q) (go : ∀ μ' L' H' a b, Xt μ k H μ' L'.length H' → Hg T μ' L' H' → relA μ' L'.length H' a b → Fin rel T W μ' L'.length H' (f a L') Q → Q1 b H') : Fin relA T W μ k H r Q1 := by
  cases r with
  | ok a L => exact fun μ' H' b x g q => go μ' L H' a b x g q (Fin.mono x h)
  | exc z L => exact h
  | bad => exact h.elim
def EvE (T : Tb) (W : WX) (te : TE) (env : Sl) (m : LH → R D) : Prop := ∀ μ L σ H Q, Hg T μ L H → SOk μ L.length H env σ → Fin Rp T (fun c d H => W c d σ H) μ L.length H (m L) Q → te σ H Q
def EvA (T : Tb) (W : WX) (ta : TA) (env : Sl) (m : LH → R (List D)) : Prop := ∀ μ L σ H Q, Hg T μ L H → SOk μ L.length H env σ → Fin Rps T (fun c d H => W c d σ H) μ L.length H (m L) Q → ta σ H Q
def EvB (T : Tb) (W : WX) (tt : TT) (env : Sl) (m : LH → R Bool) : Prop := ∀ μ L σ H Q, Hg T μ L H → SOk μ L.length H env σ → Fin (fun _ _ _ a b => b = a) T (fun c d H => W c d σ H) μ L.length H (m L) Q → tt σ H Q
end DI
set_option Elab.async false
set_option linter.all false
set_option maxRecDepth 100000
set_option maxHeartbeats 2000000
/-! Operators on plain data. -/
namespace DI
open PySem PySem.Spec PyProof.Rows L2 GxR
abbrev WV := Value → Option Addr → Hp → Prop
/-! ### judgements of operators -/
def OpS (T : Tb) (r : R2) (f : D → D → LH → R D) : Prop := ∀ (W : WV) μ L H x y d e Q, Hg T μ L H → Rp μ L.length H d x → Rp μ L.length H e y → Fin Rp T W μ L.length H (f d e L) Q → r x y H Q
def UnS (T : Tb) (r : V → Hp → VK → Prop) (f : D → LH → R D) : Prop := ∀ (W : WV) μ L H x d Q, Hg T μ L H → Rp μ L.length H d x → Fin Rp T W μ L.length H (f d L) Q → r x H Q
def CaS (T : Tb) (r : List V → Hp → VK → Prop) (f : List D → LH → R D) : Prop := ∀ (W : WV) μ L H xs ds Q, Hg T μ L H → Rps μ L.length H ds xs → Fin Rp T W μ L.length H (f ds L) Q → r xs H Q
def MtS (T : Tb) (r : V → List V → Hp → VK → Prop) (f : D → List D → LH → R D) : Prop := ∀ (W : WV) μ L H x xs d ds Q, Hg T μ L H → Rp μ L.length H d x → Rps μ L.length H ds xs → Fin Rp T W μ L.length H (f d ds L) Q → r x xs H Q
section
variable {T : Tb} {W : WX} {ta tb : TE} {env : Sl} {ma mb : LH → R D}
theorem ev_op {r : R2} {f : D → D → LH → R D} (ha : EvE T W ta env ma) (hb : EvE T W tb env mb) (ho : OpS T r f) : EvE T W (tOp r ta tb) env fun L => (ma L).bind fun d L => (mb L).bind fun e L => f d e L := fun μ L σ H Q g s h =>
  ha μ L σ H _ g s (Fin.bind h fun μ1 L1 H1 d x x1 g1 r1 h1 => hb μ1 L1 σ H1 _ g1 (s.mono x1) (Fin.bind h1 fun μ2 L2 H2 e y x2 g2 r2 h2 => ho _ μ2 L2 H2 x y d e Q g2 (r1.mono x2) r2 h2))
theorem ev_un {r : V → Hp → VK → Prop} {f : D → LH → R D} (ha : EvE T W ta env ma) (ho : UnS T r f) : EvE T W (tUn r ta) env fun L => (ma L).bind f := fun μ L σ H Q g s h =>
  ha μ L σ H _ g s (Fin.bind h fun μ1 L1 H1 d x x1 g1 r1 h1 => ho _ μ1 L1 H1 x d Q g1 r1 h1)
theorem ev_var {i : Nat} : EvE T W (tVar i) env fun L => match env[i]? with
    | some (some d) => .ok d L
    | _ => .bad := fun μ L σ H Q g s h => by
  cases e : env[i]? with
  | none =>
    rw [e] at h
    exact h.elim
  | some o =>
    cases o with
    | none =>
      rw [e] at h
      exact h.elim
    | some d =>
      rw [e] at h
      obtain ⟨v, a, b⟩ := s.at_ i d e
      exact ⟨v, a, h μ H v Xt.refl g b⟩
theorem ev_const {v : V} {d : D} (hd : ∀ μ k H, Rp μ k H d v) : EvE T W (tC v) env fun L => .ok d L := fun μ L σ H Q g s h => h μ H v Xt.refl g (hd _ _ _)
theorem ea_nil : EvA T W tNil env fun L => .ok [] L := fun μ L σ H Q g s h => h μ H [] Xt.refl g rfl
theorem ea_cons {tr : TA} {mr : LH → R (List D)} (ha : EvE T W ta env ma) (hr : EvA T W tr env mr) : EvA T W (tCons ta tr) env fun L => (ma L).bind fun d L => (mr L).bind fun ds L => .ok (d :: ds) L := fun μ L σ H Q g s h =>
  ha μ L σ H _ g s (Fin.bind h fun μ1 L1 H1 d x x1 g1 r1 h1 => hr μ1 L1 σ H1 _ g1 (s.mono x1) (Fin.bind h1 fun μ2 L2 H2 ds xs x2 g2 r2 h2 => h2 μ2 H2 (x :: xs) Xt.refl g2 ⟨x, xs, rfl, r1.mono x2, r2⟩))
theorem rp_cell {μ : Mu} {L : LH} {H : Hp} {d : D} {v : V} {c : Cell} (x : Rp μ L.length H d v) : True := trivial
/-- a new tuple -/
theorem fin_tup {μ : Mu} {L : LH} {H : Hp} {W : WV} {Q : VK} {ds : List D} {vs : List V} (g : Hg T μ L H) (r : Rps μ L.length H ds vs) (h : Fin Rp T W μ L.length H (.ok (.tup ds) L) Q) : ∀ p, H p = none → Q (.ref p) (upd H p (.tup vs)) := fun p hp =>
  h μ _ _ (xt_upd hp) (g.junk hp) ⟨p, vs, rfl, upd_same, r.mono (xt_upd hp)⟩
/-- a new list -/
theorem fin_lst {μ : Mu} {L : LH} {H : Hp} {W : WV} {Q : VK} {ds : List D} {vs : List V} (g : Hg T μ L H) (r : Rps μ L.length H ds vs) (h : Fin Rp T W μ L.length H (.ok (.ref L.length) (L ++ [.lst true ds])) Q) : ∀ p, H p = none → Q (.ref p) (upd H p (.lst vs)) := fun p hp => by
  have hk : ∀ b o, H b = some o → (upd H p (.lst vs)) b = some o := fun b o e => by
    rw [upd_ne (ne_of_none e hp)]
    exact e
  have x : Xt μ L.length H (muP μ L.length p) (L.length + 1) (upd H p (.lst vs)) := xt_new fun a ws e => hk a _ e
  refine h (muP μ L.length p) _ _ ?_ (g.cell hp hk ⟨vs, upd_same, r.mono x⟩) ?_
  · rw [show (L ++ [Cell.lst true ds]).length = L.length + 1 by simp]
    exact x
  · rw [show (L ++ [Cell.lst true ds]).length = L.length + 1 by simp]
    exact ⟨Nat.lt_succ_self _, by rw [muP_new]⟩
theorem ev_tup {tt : TA} {m : LH → R (List D)} (h : EvA T W tt env m) : EvE T W (tTup tt) env fun L => (m L).bind fun ds L => if ds.length ≤ 100000 then .ok (.tup ds) L else .bad := fun μ L σ H Q g s q =>
  h μ L σ H _ g s (Fin.bind q fun μ1 L1 H1 ds xs x1 g1 r1 h1 => by
    by_cases hl : ds.length ≤ 100000
    · rw [if_pos hl] at h1
      refine ⟨?_, fin_tup g1 r1 h1⟩
      rw [r1.length]
      exact Nat.le_trans hl (by decide)
    · rw [if_neg hl] at h1
      exact h1.elim)
theorem ev_lst {tt : TA} {m : LH → R (List D)} (h : EvA T W tt env m) : EvE T W (tLst tt) env fun L => (m L).bind fun ds L => if ds.length ≤ 100000 then .ok (.ref L.length) (L ++ [.lst true ds]) else .bad := fun μ L σ H Q g s q =>
  h μ L σ H _ g s (Fin.bind q fun μ1 L1 H1 ds xs x1 g1 r1 h1 => by
    by_cases hl : ds.length ≤ 100000
    · rw [if_pos hl] at h1
      refine ⟨?_, fin_lst g1 r1 h1⟩
      rw [r1.length]
      exact Nat.le_trans hl (by decide)
    · rw [if_neg hl] at h1
      exact h1.elim)
end
/-! ### what a number of a cell holds -/
def lstAt (L : LH) (n : Nat) : Option (List D) := match L[n]? with
  | some (.lst _ xs) => some xs
  | _ => none
def mutAt (L : LH) (n : Nat) : Option (List D) := match L[n]? with
  | some (.lst true xs) => some xs
  | _ => none
def insAt (L : LH) (n : Nat) : Option (Addr × List (Str × D)) := match L[n]? with
  | some (.ins C fs) => some (C, fs)
  | _ => none
section
variable {T : Tb} {μ : Mu} {L : LH} {H : Hp} {n : Nat}
theorem lst_at {K : PySem.W.Frag} (g : Hg T μ L H) {xs : List D} (h : lstAt L n = some xs) : ∃ vs, SqL K H (μ n) vs ∧ Rps μ L.length H xs vs := by
  unfold lstAt at h
  cases e : L[n]? with
  | none => rw [e] at h; cases h
  | some c =>
    rw [e] at h
    cases c with
    | ins C fs => cases h
    | lst m ys =>
      cases h
      cases m with
      | true =>
        obtain ⟨vs, a, b⟩ := g.cel n _ e
        exact ⟨vs, .inl (.inl a), b⟩
      | false =>
        obtain ⟨o, vs, a, b⟩ := g.cel n _ e
        exact ⟨vs, .inl (.inr ⟨o, a⟩), b⟩
theorem mut_get {xs : List D} (h : mutAt L n = some xs) : L[n]? = some (.lst true xs) := by
  unfold mutAt at h
  cases e : L[n]? with
  | none => rw [e] at h; cases h
  | some c =>
    rw [e] at h
    cases c with
    | ins C fs => cases h
    | lst m ys =>
      cases m with
      | true => cases h; rfl
      | false => cases h
theorem mut_at (g : Hg T μ L H) {xs : List D} (h : mutAt L n = some xs) : ∃ vs, H (μ n) = some (.lst vs) ∧ Rps μ L.length H xs vs := g.cel n _ (mut_get h)
theorem ins_at (g : Hg T μ L H) {C : Addr} {fs : List (Str × D)} (h : insAt L n = some (C, fs)) : ∃ dx fvs, H (μ n) = some (.ins C dx fvs) ∧ RpF μ L.length H fs fvs := by
  unfold insAt at h
  cases e : L[n]? with
  | none => rw [e] at h; cases h
  | some c =>
    rw [e] at h
    cases c with
    | lst m ys => cases h
    | ins C' fs' =>
      cases h
      exact g.cel n _ e
/-- the list at n is written -/
theorem fin_set {W : WV} {Q : VK} {xs ys : List D} {us : List V} {d : D} {v : V} (g : Hg T μ L H) (hn : mutAt L n = some xs) (r : Rps μ L.length H ys us) (hd : Rp μ L.length H d v) (h : Fin Rp T W μ L.length H (.ok d (L.set n (.lst true ys))) Q) : Q v (upd H (μ n) (.lst us)) := by
  obtain ⟨vs, a, b⟩ := mut_at g hn
  have x0 : Xt μ L.length H μ L.length (upd H (μ n) (.lst us)) := ⟨Nat.le_refl _, fun _ _ => rfl, fun p ws e => by
    rw [upd_ne (fun z => by rw [z, a] at e; cases e)]
    exact e⟩
  obtain ⟨g1, x1⟩ := g.write (c := .lst true ys) (o := .lst us) (mut_get hn) ⟨us, upd_same, r.mono x0⟩
  exact h μ _ v x1 g1 (hd.mono x1)
end
/-! ### ints -/
def i2 (f : Int → Int → Option D) : D → D → LH → R D
  | .int i, .int j, L => match f i j with
    | some d => .ok d L
    | none => .bad
  | _, _, _ => .bad
theorem ops_I {T : Tb} {C : Int → Int → Prop} [∀ i j, Decidable (C i j)] {gV : Int → Int → V} {gD : Int → Int → D} (hg : ∀ i j μ k H, Rp μ k H (gD i j) (gV i j)) : OpS T (rI C gV) (i2 fun i j => if C i j then some (gD i j) else none) := fun W μ L H x y d e Q g rx ry h => by
  cases d with
  | int i =>
    cases e with
    | int j =>
      have ex : x = .int i := rx
      have ey : y = .int j := ry
      unfold i2 at h
      by_cases c : C i j
      · simp only [if_pos c] at h
        exact ⟨i, j, ex, ey, c, h μ H _ Xt.refl g (hg _ _ _ _ _)⟩
      · simp only [if_neg c] at h
        exact h.elim
    | _ => exact h.elim
  | _ => exact h.elim
theorem ops_I0 {T : Tb} {gV : Int → Int → V} {gD : Int → Int → D} (hg : ∀ i j μ k H, Rp μ k H (gD i j) (gV i j)) : OpS T (rI0 gV) (i2 fun i j => some (gD i j)) := fun W μ L H x y d e Q g rx ry h => by
  cases d with
  | int i =>
    cases e with
    | int j =>
      have ex : x = .int i := rx
      have ey : y = .int j := ry
      exact ⟨i, j, ex, ey, h μ H _ Xt.refl g (hg _ _ _ _ _)⟩
    | _ => exact h.elim
  | _ => exact h.elim
/-- either of two readings of one operator: the first where it serves -/
def alt2 (c : D → D → LH → Bool) (f f' : D → D → LH → R D) : D → D → LH → R D := fun d e L => if c d e L = true then f d e L else f' d e L
theorem ops_or {T : Tb} {c : D → D → LH → Bool} {r r' : R2} {f f' : D → D → LH → R D} (h : OpS T r f) (h' : OpS T r' f') : OpS T (fun x y H Q => r x y H Q ∨ r' x y H Q) (alt2 c f f') := fun W μ L H x y d e Q g rx ry q => by
  unfold alt2 at q
  by_cases z : c d e L = true
  · rw [if_pos z] at q
    exact .inl (h W μ L H x y d e Q g rx ry q)
  · rw [if_neg z] at q
    exact .inr (h' W μ L H x y d e Q g rx ry q)
/-! ### + -/
def addStr : D → D → LH → R D
  | .str x, .str y, L => if x.length + y.length ≤ 100000 then .ok (.str (x ++ y)) L else .bad
  | _, _, _ => .bad
def addTup : D → D → LH → R D
  | .tup x, .tup y, L => if x.length + y.length ≤ 100000 then .ok (.tup (x ++ y)) L else .bad
  | _, _, _ => .bad
def addLst : D → D → LH → R D
  | .ref n, .ref m, L => match mutAt L n, mutAt L m with
    | some x, some y => if x.length + y.length ≤ 100000 then .ok (.ref L.length) (L ++ [.lst true (x ++ y)]) else .bad
    | _, _ => .bad
  | _, _, _ => .bad
theorem sl5 {n : Nat} (h : n ≤ 100000) : n ≤ sizeLine := Nat.le_trans h (by decide)
abbrev rAddStr : R2 := fun x y H Q => ∃ i j, x = .str i ∧ y = .str j ∧ i.length + j.length ≤ sizeLine ∧ Q (.str (i ++ j)) H
theorem ops_addStr {T : Tb} : OpS T rAddStr addStr := fun W μ L H x y d e Q g rx ry h => by
  cases d with
  | str i =>
    cases e with
    | str j =>
      have ex : x = .str i := rx
      have ey : y = .str j := ry
      unfold addStr at h
      by_cases c : i.length + j.length ≤ 100000
      · simp only [if_pos c] at h
        exact ⟨i, j, ex, ey, sl5 c, h μ H _ Xt.refl g rfl⟩
      · simp only [if_neg c] at h
        exact h.elim
    | _ => exact h.elim
  | _ => exact h.elim
theorem ops_addTup {T : Tb} {K : PySem.W.Frag} : OpS T (rCatA K) addTup := fun W μ L H x y d e Q g rx ry h => by
  cases d with
  | tup xs =>
    cases e with
    | tup ys =>
      obtain ⟨a, us, ex, ha, ra⟩ := rx
      obtain ⟨b, ws, ey, hb, rb⟩ := ry
      unfold addTup at h
      by_cases c : xs.length + ys.length ≤ 100000
      · simp only [if_pos c] at h
        refine ⟨a, b, us, ws, ex, ey, .inl (.inl ha), .inl (.inl hb), by rw [ra.length, rb.length]; exact sl5 c, fun z => ?_, fun _ z => ?_, fun _ _ => ?_⟩
        · subst z
          have z2 : xs = [] := List.length_eq_zero_iff.mp ra.length.symm
          subst z2
          exact h μ H _ Xt.refl g ⟨b, ws, rfl, hb, rb⟩
        · subst z
          have z2 : ys = [] := List.length_eq_zero_iff.mp rb.length.symm
          subst z2
          rw [List.append_nil] at h
          exact h μ H _ Xt.refl g ⟨a, us, rfl, ha, ra⟩
        · exact fin_tup g (ra.append rb) h
      · simp only [if_neg c] at h
        exact h.elim
    | _ => exact h.elim
  | _ => exact h.elim
theorem ops_addLst {T : Tb} : OpS T rCat addLst := fun W μ L H x y d e Q g rx ry h => by
  cases d with
  | ref n =>
    cases e with
    | ref m =>
      unfold addLst at h
      cases hn : mutAt L n with
      | none => simp only [hn] at h; exact h.elim
      | some xs =>
        cases hm : mutAt L m with
        | none => simp only [hn, hm] at h; exact h.elim
        | some ys =>
          simp only [hn, hm] at h
          obtain ⟨us, ha, ra⟩ := mut_at g hn
          obtain ⟨ws, hb, rb⟩ := mut_at g hm
          by_cases c : xs.length + ys.length ≤ 100000
          · simp only [if_pos c] at h
            exact ⟨μ n, μ m, us, ws, rx.2, ry.2, ha, hb, by rw [ra.length, rb.length]; exact sl5 c, fin_lst g (ra.append rb) h⟩
          · simp only [if_neg c] at h
            exact h.elim
    | _ => exact h.elim
  | _ => exact h.elim
def isI : D → Bool
  | .int _ => true
  | _ => false
def isS : D → Bool
  | .str _ => true
  | _ => false
def isT : D → Bool
  | .tup _ => true
  | _ => false
def addD : D → D → LH → R D := alt2 (fun d _ _ => isI d) (i2 fun i j => some (.int (i + j))) (alt2 (fun d _ _ => isT d) addTup (alt2 (fun d _ _ => isS d) addStr addLst))
def rAddD (K : PySem.W.Frag) : R2 := fun x y H Q => (rI0 (fun i j => .int (i + j))) x y H Q ∨ (rCatA K x y H Q ∨ (rAddStr x y H Q ∨ rCat x y H Q))
theorem op_addD {X : Cx} : OpR X (binaryOp .Add) (rAddD X.K) := op_add.or (op_catA.or (op_add_str.or op_cat))
theorem ops_addD {T : Tb} {K : PySem.W.Frag} : OpS T (rAddD K) addD := ops_or (ops_I0 fun _ _ _ _ _ => rfl) (ops_or ops_addTup (ops_or ops_addStr ops_addLst))
end DI
set_option Elab.async false
set_option linter.all false
set_option maxRecDepth 100000
set_option maxHeartbeats 2000000
/-! Further operators: arithmetic, comparisons, membership, places and slices. -/
namespace DI
open PySem PySem.Spec PyProof.Rows L2 GxR
section
variable {T : Tb} {K : PySem.W.Frag} {X : Cx}
instance (i j : Int) : Decidable (CMulX i j) := by unfold CMulX; infer_instance
instance (i j : Int) : Decidable (CDivN i j) := by unfold CDivN; infer_instance
instance (i j : Int) : Decidable (CPow i j) := by unfold CPow; infer_instance
/-! ### - * // % ** << >> & -/
def subD : D → D → LH → R D := i2 fun i j => some (.int (i - j))
theorem ops_subD : OpS T (rI0 fun i j => .int (i - j)) subD := ops_I0 fun _ _ _ _ _ => rfl
def repD : D → D → LH → R D
  | .ref n, .int k, L => match mutAt L n with
    | some xs => if k < 100000 ∧ -100000 < k ∧ xs.length * k.toNat ≤ 100000 then .ok (.ref L.length) (L ++ [.lst true (List.replicate k.toNat xs).flatten]) else .bad
    | none => .bad
  | _, _, _ => .bad
theorem rps_rep {μ : Mu} {k : Nat} {H : Hp} {ds : List D} {vs : List V} (r : Rps μ k H ds vs) : ∀ n : Nat, Rps μ k H (List.replicate n ds).flatten (List.replicate n vs).flatten
  | 0 => rfl
  | n + 1 => by
    rw [List.replicate_succ, List.replicate_succ, List.flatten_cons, List.flatten_cons]
    exact r.append (rps_rep r n)
theorem ops_repD : OpS T rRep repD := fun W μ L H x y d e Q g rx ry h => by
  cases d with
  | ref n =>
    cases e with
    | int k =>
      unfold repD at h
      cases hn : mutAt L n with
      | none => simp only [hn] at h; exact h.elim
      | some xs =>
        simp only [hn] at h
        obtain ⟨us, ha, ra⟩ := mut_at g hn
        by_cases c : k < 100000 ∧ -100000 < k ∧ xs.length * k.toNat ≤ 100000
        · simp only [if_pos c] at h
          refine ⟨μ n, k, us, rx.2, ry, ha, by omega, by omega, by rw [ra.length]; exact sl5 c.2.2, fin_lst g (rps_rep ra _) h⟩
        · simp only [if_neg c] at h
          exact h.elim
    | _ => exact h.elim
  | _ => exact h.elim
def mulD : D → D → LH → R D := alt2 (fun d _ _ => isI d) (i2 fun i j => if CMulX i j then some (.int (i * j)) else none) repD
def rMulD : R2 := fun x y H Q => rI CMulX (fun i j => .int (i * j)) x y H Q ∨ rRep x y H Q
theorem op_mulD : OpR X (binaryOp .Mult) rMulD := op_mulX.or op_rep
theorem ops_mulD : OpS T rMulD mulD := ops_or (ops_I fun _ _ _ _ _ => rfl) ops_repD
def fdivD : D → D → LH → R D := i2 fun i j => if CDivN i j then some (.int (i.fdiv j)) else none
theorem ops_fdivD : OpS T (rI CDivN fun i j => .int (i.fdiv j)) fdivD := ops_I fun _ _ _ _ _ => rfl
def modD : D → D → LH → R D := i2 fun i j => if j ≠ 0 then some (.int (i.fmod j)) else none
theorem ops_modD : OpS T (rI (fun _ j => j ≠ 0) fun i j => .int (i.fmod j)) modD := ops_I (C := fun _ j => j ≠ 0) fun _ _ _ _ _ => rfl
def powD : D → D → LH → R D := i2 fun i j => if CPow i j then some (.int (i ^ j.toNat)) else none
theorem ops_powD : OpS T (rI CPow fun i j => .int (i ^ j.toNat)) powD := ops_I fun _ _ _ _ _ => rfl
def shlD : D → D → LH → R D := i2 fun i j => if CPow i j then some (.int (i * 2 ^ j.toNat)) else none
theorem ops_shlD : OpS T (rI CPow fun i j => .int (i * 2 ^ j.toNat)) shlD := ops_I fun _ _ _ _ _ => rfl
def shrD : D → D → LH → R D := i2 fun i j => if 0 ≤ j then some (.int (i / 2 ^ j.toNat)) else none
theorem ops_shrD : OpS T (rI (fun _ j => 0 ≤ j) fun i j => .int (i / 2 ^ j.toNat)) shrD := ops_I (C := fun _ j => 0 ≤ j) fun _ _ _ _ _ => rfl
def andD : D → D → LH → R D := i2 fun i j => some (.int (Builtin.bitAnd i j))
theorem ops_andD : OpS T (rI0 fun i j => .int (Builtin.bitAnd i j)) andD := ops_I0 fun _ _ _ _ _ => rfl
def negD : D → LH → R D
  | .int i, L => .ok (.int (-i)) L
  | _, _ => .bad
theorem uns_negD : UnS T (rU fun i => .int (-i)) negD := fun W μ L H x d Q g rx h => by
  cases d with
  | int i => exact ⟨i, rx, h μ H _ Xt.refl g rfl⟩
  | _ => exact h.elim
/-! ### order -/
def intsD : List D → Option (List Int)
  | [] => some []
  | .int i :: ds => (intsD ds).map (i :: ·)
  | _ :: _ => none
theorem ints_of {μ : Mu} {k : Nat} {H : Hp} : ∀ {ds : List D} {vs : List V} {ns : List Int}, intsD ds = some ns → Rps μ k H ds vs → vs = ns.map V.int ∧ ds = ns.map D.int
  | [], _, _, e, r => by
    cases e
    exact ⟨r, rfl⟩
  | .int i :: ds, _, ns, e, ⟨v, ws, z, r1, r2⟩ => by
    unfold intsD at e
    cases q : intsD ds with
    | none => rw [q] at e; cases e
    | some ms =>
      rw [q] at e
      cases e
      obtain ⟨a, b⟩ := ints_of q r2
      have r1 : v = .int i := r1
      subst z r1 a b
      exact ⟨rfl, rfl⟩
  | .bl _ :: _, _, _, e, _ => nomatch e
  | .non :: _, _, _, e, _ => nomatch e
  | .str _ :: _, _, _, e, _ => nomatch e
  | .tup _ :: _, _, _, e, _ => nomatch e
  | .ref _ :: _, _, _, e, _ => nomatch e
  | .ty _ :: _, _, _, e, _ => nomatch e
  | .cls _ :: _, _, _, e, _ => nomatch e
theorem intsD_map : ∀ ns : List Int, intsD (ns.map D.int) = some ns
  | [] => rfl
  | n :: ns => by
    rw [List.map_cons]
    unfold intsD
    rw [intsD_map ns]
    rfl
def ltTup : D → D → LH → R D
  | .tup x, .tup y, L => match intsD x, intsD y with
    | some ns, some ms => .ok (.bl (HT.lexLt ns ms)) L
    | _, _ => .bad
  | _, _, _ => .bad
theorem ops_ltTup : OpS T (rLtT K) ltTup := fun W μ L H x y d e Q g rx ry h => by
  cases d with
  | tup xs =>
    cases e with
    | tup ys =>
      obtain ⟨a, us, ex, ha, ra⟩ := rx
      obtain ⟨b, ws, ey, hb, rb⟩ := ry
      unfold ltTup at h
      cases hn : intsD xs with
      | none => simp only [hn] at h; exact h.elim
      | some ns =>
        cases hm : intsD ys with
        | none => simp only [hn, hm] at h; exact h.elim
        | some ms =>
          simp only [hn, hm] at h
          have e1 := (ints_of hn ra).1
          have e2 := (ints_of hm rb).1
          subst e1 e2
          exact ⟨a, b, ns, ms, ex, ey, .inl (.inl ha), .inl (.inl hb), h μ H _ Xt.refl g rfl⟩
    | _ => exact h.elim
  | _ => exact h.elim
def ltStr : D → D → LH → R D
  | .str x, .str y, L => .ok (.bl (decide (x.cps.toList < y.cps.toList))) L
  | _, _, _ => .bad
abbrev rLtStr : R2 := fun x y H Q => ∃ i j, x = .str i ∧ y = .str j ∧ Q (.bl (decide (i.cps.toList < j.cps.toList))) H
theorem ops_ltStr : OpS T rLtStr ltStr := fun W μ L H x y d e Q g rx ry h => by
  cases d with
  | str i =>
    cases e with
    | str j => exact ⟨i, j, rx, ry, h μ H _ Xt.refl g rfl⟩
    | _ => exact h.elim
  | _ => exact h.elim
def ltD : D → D → LH → R D := alt2 (fun d _ _ => isI d) (i2 fun i j => some (.bl (decide (i < j)))) (alt2 (fun d _ _ => isT d) ltTup ltStr)
def rLtD (K : PySem.W.Frag) : R2 := fun x y H Q => rI0 (fun i j => .bl (decide (i < j))) x y H Q ∨ (rLtT K x y H Q ∨ rLtStr x y H Q)
theorem op_ltD (hu : X.A.units < cLine) : OpR X (compareOp .Lt) (rLtD X.K) := op_lt.or ((op_ltT hu).or op_lt_str)
theorem ops_ltD : OpS T (rLtD K) ltD := ops_or (ops_I0 fun _ _ _ _ _ => rfl) (ops_or ops_ltTup ops_ltStr)
def leD : D → D → LH → R D := i2 fun i j => some (.bl (decide (i ≤ j)))
theorem ops_leD : OpS T (rI0 fun i j => .bl (decide (i ≤ j))) leD := ops_I0 fun _ _ _ _ _ => rfl
def gtD : D → D → LH → R D := i2 fun i j => some (.bl (decide (j < i)))
theorem ops_gtD : OpS T (rI0 fun i j => .bl (decide (j < i))) gtD := ops_I0 fun _ _ _ _ _ => rfl
def geD : D → D → LH → R D := i2 fun i j => some (.bl (decide (j ≤ i)))
theorem ops_geD : OpS T (rI0 fun i j => .bl (decide (j ≤ i))) geD := ops_I0 fun _ _ _ _ _ => rfl
/-! ### == and != -/
def mapO {α β : Type} (f : α → Option β) : List α → Option (List β)
  | [] => some []
  | x :: xs => match f x, mapO f xs with
    | some y, some ys => some (y :: ys)
    | _, _ => none
/-- the data that a value holds, read n deep -/
def pd (L : LH) : Nat → D → Option PyData
  | 0, _ => none
  | _ + 1, .int i => some (.int i)
  | _ + 1, .bl b => some (.bool b)
  | _ + 1, .non => some .none
  | _ + 1, .str x => some (.str x)
  | n + 1, .tup xs => (mapO (pd L n) xs).map .tuple
  | n + 1, .ref m => match lstAt L m with
    | some xs => (mapO (pd L n) xs).map .list
    | none => none
  | _ + 1, .ty _ => none
  | _ + 1, .cls _ => none
theorem dp_all {μ : Mu} {k : Nat} {H : Hp} {f : D → Option PyData} (hf : ∀ (d : D) (p : PyData) (v : V), f d = some p → Rp μ k H d v → Dp K H v p) : ∀ {ds : List D} {ps : List PyData} {vs : List V}, mapO f ds = some ps → Rps μ k H ds vs → DpAll K H vs ps
  | [], _, _, e, r => by
    cases e
    rw [r]
    exact .nil
  | d :: ds, ps, _, e, ⟨v, ws, z, r1, r2⟩ => by
    unfold mapO at e
    cases q : f d with
    | none => simp only [q] at e; cases e
    | some p =>
      cases q2 : mapO f ds with
      | none => simp only [q, q2] at e; cases e
      | some qs =>
        simp only [q, q2] at e
        cases e
        subst z
        exact .cons (hf _ _ _ q r1) (dp_all hf q2 r2)
theorem dp_of {μ : Mu} {L : LH} {H : Hp} (g : Hg T μ L H) : ∀ (n : Nat) (d : D) (p : PyData) (v : V), pd L n d = some p → Rp μ L.length H d v → Dp K H v p
  | 0, _, _, _, e, _ => nomatch e
  | _ + 1, .int i, p, v, e, r => by
    cases e
    rw [show v = .int i from r]
    exact .int i
  | _ + 1, .bl b, p, v, e, r => by
    cases e
    rw [show v = .bl b from r]
    exact .bl b
  | _ + 1, .non, p, v, e, r => by
    cases e
    rw [show v = .non from r]
    exact .non
  | _ + 1, .str x, p, v, e, r => by
    cases e
    rw [show v = .str x from r]
    exact .str x
  | n + 1, .tup xs, p, v, e, r => by
    obtain ⟨a, vs, ev, ha, rs⟩ := r
    unfold pd at e
    cases q : mapO (pd L n) xs with
    | none => rw [q] at e; cases e
    | some ps =>
      rw [q] at e
      cases e
      rw [ev]
      exact .tup (.inl (.inl ha)) (dp_all (fun d p v a b => dp_of g n d p v a b) q rs)
  | n + 1, .ref m, p, v, e, r => by
    unfold pd at e
    cases q : lstAt L m with
    | none => simp only [q] at e; cases e
    | some xs =>
      simp only [q] at e
      cases q2 : mapO (pd L n) xs with
      | none => rw [q2] at e; cases e
      | some ps =>
        rw [q2] at e
        cases e
        obtain ⟨vs, hs, rs⟩ := lst_at (K := K) g q
        rw [r.2]
        exact .lst hs (dp_all (fun d p v a b => dp_of g n d p v a b) q2 rs)
  | _ + 1, .ty _, _, _, e, _ => nomatch e
  | _ + 1, .cls _, _, _, e, _ => nomatch e
/-- how deep == looks -/
abbrev deepN : Nat := 12
def pd2 (L : LH) (d e : D) : Option (PyData × PyData) := match pd L deepN d, pd L deepN e with
  | some p, some q => if (SeqAt.shaped p && SeqAt.shaped q) = true then some (p, q) else none
  | _, _ => none
theorem pd2_get {L : LH} {d e : D} {p q : PyData} (h : pd2 L d e = some (p, q)) : pd L deepN d = some p ∧ pd L deepN e = some q ∧ SeqAt.shaped p = true ∧ SeqAt.shaped q = true := by
  unfold pd2 at h
  cases h1 : pd L deepN d with
  | none => simp only [h1] at h; cases h
  | some p' =>
    cases h2 : pd L deepN e with
    | none => simp only [h1, h2] at h; cases h
    | some q' =>
      simp only [h1, h2] at h
      by_cases c : (SeqAt.shaped p' && SeqAt.shaped q') = true
      · rw [if_pos c] at h
        cases h
        rw [Bool.and_eq_true] at c
        exact ⟨rfl, rfl, c.1, c.2⟩
      · rw [if_neg c] at h
        cases h
def eqD : D → D → LH → R D := fun d e L => match pd2 L d e with
  | some (p, q) => .ok (.bl (PyData.eqv p q)) L
  | none => .bad
def neD : D → D → LH → R D := fun d e L => match pd2 L d e with
  | some (p, q) => .ok (.bl (!PyData.eqv p q)) L
  | none => .bad
theorem ops_eqD : OpS T (rEqD K) eqD := fun W μ L H x y d e Q g rx ry h => by
  unfold eqD at h
  cases c : pd2 L d e with
  | none => simp only [c] at h; exact h.elim
  | some z =>
    obtain ⟨p, q⟩ := z
    simp only [c] at h
    obtain ⟨a, b, s1, s2⟩ := pd2_get c
    exact ⟨p, q, dp_of g _ _ _ _ a rx, dp_of g _ _ _ _ b ry, s1, s2, h μ H _ Xt.refl g rfl⟩
theorem ops_neD : OpS T (rNeD K) neD := fun W μ L H x y d e Q g rx ry h => by
  unfold neD at h
  cases c : pd2 L d e with
  | none => simp only [c] at h; exact h.elim
  | some z =>
    obtain ⟨p, q⟩ := z
    simp only [c] at h
    obtain ⟨a, b, s1, s2⟩ := pd2_get c
    exact ⟨p, q, dp_of g _ _ _ _ a rx, dp_of g _ _ _ _ b ry, s1, s2, h μ H _ Xt.refl g rfl⟩
/-! ### in, not in -/
def flD : D → Bool
  | .int _ => true
  | .bl _ => true
  | .non => true
  | .str _ => true
  | _ => false
def vD : D → V
  | .int i => .int i
  | .bl b => .bl b
  | .str x => .str x
  | _ => .non
theorem vD_of {μ : Mu} {k : Nat} {H : Hp} {d : D} {v : V} (f : flD d = true) (r : Rp μ k H d v) : v = vD d ∧ flatV v = true := by
  cases d with
  | int i => rw [show v = .int i from r]; exact ⟨rfl, rfl⟩
  | bl i => rw [show v = .bl i from r]; exact ⟨rfl, rfl⟩
  | non => rw [show v = .non from r]; exact ⟨rfl, rfl⟩
  | str i => rw [show v = .str i from r]; exact ⟨rfl, rfl⟩
  | _ => cases f
theorem vDs_of {μ : Mu} {k : Nat} {H : Hp} : ∀ {ds : List D} {vs : List V}, ds.all flD = true → Rps μ k H ds vs → vs = ds.map vD ∧ vs.all flatV = true
  | [], _, _, r => by
    rw [r]
    exact ⟨rfl, rfl⟩
  | d :: ds, _, f, ⟨v, ws, z, r1, r2⟩ => by
    rw [List.all_cons, Bool.and_eq_true] at f
    obtain ⟨a, b⟩ := vD_of f.1 r1
    obtain ⟨a2, b2⟩ := vDs_of f.2 r2
    rw [z, List.all_cons, b, b2, a, a2]
    exact ⟨rfl, rfl⟩
def seqD (L : LH) : D → Option (List D)
  | .tup xs => some xs
  | .ref n => lstAt L n
  | _ => none
theorem seq_of {μ : Mu} {L : LH} {H : Hp} {d : D} {v : V} {xs : List D} (g : Hg T μ L H) (h : seqD L d = some xs) (r : Rp μ L.length H d v) : ∃ p vs, v = .ref p ∧ (SqL K H p vs ∨ SqT K H p vs) ∧ Rps μ L.length H xs vs := by
  cases d with
  | tup ys =>
    cases h
    obtain ⟨a, vs, e, ha, rs⟩ := r
    exact ⟨a, vs, e, .inr (.inl (.inl ha)), rs⟩
  | ref n =>
    obtain ⟨vs, hs, rs⟩ := lst_at (K := K) g h
    exact ⟨μ n, vs, r.2, .inl hs, rs⟩
  | _ => cases h
def inFl (neg : Bool) : D → D → LH → R D := fun d e L => match seqD L e with
  | some xs => if (flD d && xs.all flD) = true then .ok (.bl (if neg then !inV (vD d) (xs.map vD) else inV (vD d) (xs.map vD))) L else .bad
  | none => .bad
theorem ops_inFl {neg : Bool} : OpS T (rIn K neg) (inFl neg) := fun W μ L H x y d e Q g rx ry h => by
  unfold inFl at h
  cases c : seqD L e with
  | none => simp only [c] at h; exact h.elim
  | some xs =>
    simp only [c] at h
    by_cases f : (flD d && xs.all flD) = true
    · simp only [if_pos f] at h
      rw [Bool.and_eq_true] at f
      obtain ⟨p, vs, ey, hq, rs⟩ := seq_of (K := K) g c ry
      obtain ⟨a, b⟩ := vD_of f.1 rx
      obtain ⟨a2, b2⟩ := vDs_of f.2 rs
      refine ⟨p, vs, ey, hq, b, b2, ?_⟩
      rw [a, a2]
      exact h μ H _ Xt.refl g rfl
    · simp only [if_neg f] at h
      exact h.elim
def inDp (neg : Bool) : D → D → LH → R D := fun d e L => match pd2 L d e with
  | some (p, .list ps) => .ok (.bl (if neg then !ps.any fun z => PyData.eqv z p else ps.any fun z => PyData.eqv z p)) L
  | _ => .bad
theorem ops_inDp : OpS T (rInD K) (inDp false) := fun W μ L H x y d e Q g rx ry h => by
  unfold inDp at h
  cases c : pd2 L d e with
  | none => simp only [c] at h; exact h.elim
  | some z =>
    obtain ⟨p, q⟩ := z
    obtain ⟨a, b, s1, s2⟩ := pd2_get c
    cases q with
    | list ps =>
      simp only [c] at h
      exact ⟨p, ps, dp_of g _ _ _ _ a rx, dp_of g _ _ _ _ b ry, s1, s2, h μ H _ Xt.refl g rfl⟩
    | _ => simp only [c] at h; exact h.elim
theorem ops_ninDp : OpS T (rNotInD K) (inDp true) := fun W μ L H x y d e Q g rx ry h => by
  unfold inDp at h
  cases c : pd2 L d e with
  | none => simp only [c] at h; exact h.elim
  | some z =>
    obtain ⟨p, q⟩ := z
    obtain ⟨a, b, s1, s2⟩ := pd2_get c
    cases q with
    | list ps =>
      simp only [c] at h
      exact ⟨p, ps, dp_of g _ _ _ _ a rx, dp_of g _ _ _ _ b ry, s1, s2, h μ H _ Xt.refl g rfl⟩
    | _ => simp only [c] at h; exact h.elim
def inD (neg : Bool) : D → D → LH → R D := alt2 (fun d _ _ => flD d) (inFl neg) (inDp neg)
def rInA (K : PySem.W.Frag) : R2 := fun x y H Q => rIn K false x y H Q ∨ rInD K x y H Q
def rNinA (K : PySem.W.Frag) : R2 := fun x y H Q => rIn K true x y H Q ∨ rNotInD K x y H Q
theorem op_inA (hu : X.A.units + 65 < cLine) : OpR X (compareOp .In) (rInA X.K) := op_in_seq.or (op_inD hu)
theorem op_ninA (hu : X.A.units + 65 < cLine) : OpR X (compareOp .NotIn) (rNinA X.K) := op_notIn_seq.or (op_notInD hu)
theorem ops_inA : OpS T (rInA K) (inD false) := ops_or ops_inFl ops_inDp
theorem ops_ninA : OpS T (rNinA K) (inD true) := ops_or ops_inFl ops_ninDp
/-! ### is None -/
def isNonD : D → Bool
  | .non => true
  | _ => false
theorem isNon_of {μ : Mu} {k : Nat} {H : Hp} {d : D} {v : V} (r : Rp μ k H d v) : decide (v = .non) = isNonD d := by
  cases d with
  | int i => rw [show v = .int i from r]; rfl
  | bl i => rw [show v = .bl i from r]; rfl
  | non => rw [show v = .non from r]; rfl
  | str i => rw [show v = .str i from r]; rfl
  | tup _ =>
    obtain ⟨a, _, e, _⟩ := r
    rw [e]
    rfl
  | ref _ =>
    rw [r.2]
    rfl
  | ty _ => rw [show v = .ty _ from r]; rfl
  | cls _ => rw [show v = .ref _ from r]; rfl
def isD (neg : Bool) : D → D → LH → R D
  | d, .non, L => .ok (.bl (if neg then !isNonD d else isNonD d)) L
  | _, _, _ => .bad
theorem ops_isD : OpS T (fun x y H Q => y = .non ∧ Q (.bl (decide (x = .non))) H) (isD false) := fun W μ L H x y d e Q g rx ry h => by
  cases e with
  | non =>
    refine ⟨ry, ?_⟩
    rw [isNon_of rx]
    exact h μ H _ Xt.refl g rfl
  | _ => exact h.elim
theorem ops_isND : OpS T (fun x y H Q => y = .non ∧ Q (.bl (!decide (x = .non))) H) (isD true) := fun W μ L H x y d e Q g rx ry h => by
  cases e with
  | non =>
    refine ⟨ry, ?_⟩
    rw [isNon_of rx]
    exact h μ H _ Xt.refl g rfl
  | _ => exact h.elim
/-! ### x[i] -/
theorem rps_atI {μ : Mu} {k : Nat} {H : Hp} {ds : List D} {vs : List V} {i : Int} {d : D} (r : Rps μ k H ds vs) (e : atI ds i = some d) : ∃ v, atI vs i = some v ∧ Rp μ k H d v := by
  unfold atI at e ⊢
  rw [r.length]
  cases q : ixN ds.length i with
  | none => rw [q] at e; cases e
  | some j =>
    rw [q] at e
    exact r.get e
def ixD : D → D → LH → R D
  | .str x, .int i, L => match atI x.cps.toList i with
    | some c => if x.length ≤ 100000 then .ok (.str ⟨#[c]⟩) L else .bad
    | none => .bad
  | d, .int i, L => match seqD L d with
    | some xs => match atI xs i with
      | some e => .ok e L
      | none => .bad
    | none => .bad
  | _, _, _ => .bad
theorem ops_ixD : OpS T (rIx K) ixD := fun W μ L H x y d e Q g rx ry h => by
  cases e with
  | int i =>
    have gen : ∀ xs, seqD L d = some xs → Fin Rp T W μ L.length H (match atI xs i with
      | some e => .ok e L
      | none => .bad) Q → rIx K x y H Q := fun xs c h => by
      cases q : atI xs i with
      | none => simp only [q] at h; exact h.elim
      | some e =>
        simp only [q] at h
        obtain ⟨p, vs, ex, hq, rs⟩ := seq_of (K := K) g c rx
        obtain ⟨v, a, b⟩ := rps_atI rs q
        rcases hq with hq | hq
        · exact .inl ⟨p, vs, i, v, ex, ry, hq, a, h μ H _ Xt.refl g b⟩
        · exact .inr (.inl ⟨p, vs, i, v, ex, ry, hq, a, h μ H _ Xt.refl g b⟩)
    cases d with
    | str z =>
      unfold ixD at h
      cases q : atI z.cps.toList i with
      | none => simp only [q] at h; exact h.elim
      | some c =>
        simp only [q] at h
        by_cases l : z.length ≤ 100000
        · simp only [if_pos l] at h
          exact .inr (.inr ⟨z, i, c, rx, ry, sl5 l, q, h μ H _ Xt.refl g rfl⟩)
        · simp only [if_neg l] at h
          exact h.elim
    | tup xs => exact gen xs rfl h
    | ref n =>
      unfold ixD at h
      cases q : seqD L (.ref n) with
      | none => simp only [q] at h; exact h.elim
      | some xs =>
        simp only [q] at h
        exact gen xs q h
    | _ => exact h.elim
  | _ => cases d <;> exact h.elim
end
end DI
set_option Elab.async false
set_option linter.all false
set_option maxRecDepth 100000
set_option maxHeartbeats 2000000
/-! Slices, calls of builtins, a list's methods. -/
namespace DI
open PySem PySem.Spec PyProof.Rows L2 GxR
section
variable {T : Tb} {K : PySem.W.Frag} {X : Cx} {W : WX} {ta tb te : TE} {env : Sl} {ma mb : LH → R D}
/-! ### slices -/
def EvO (T : Tb) (W : WX) (to : TO) (env : Sl) (m : LH → R (Option Int)) : Prop := ∀ μ L σ H Q, Hg T μ L H → SOk μ L.length H env σ → Fin (fun _ _ _ a b => b = a) T (fun c d H => W c d σ H) μ L.length H (m L) Q → to σ H Q
theorem eo_none : EvO T W tNoPart env fun L => .ok none L := fun μ L σ H Q g s h => h μ H _ Xt.refl g rfl
def intD : D → LH → R (Option Int)
  | .int i, L => .ok (some i) L
  | _, _ => .bad
theorem eo_some (ha : EvE T W ta env ma) : EvO T W (tPart ta) env fun L => (ma L).bind intD := fun μ L σ H Q g s h =>
  ha μ L σ H _ g s (Fin.bind h fun μ1 L1 H1 d x x1 g1 r1 h1 => by
    cases d with
    | int i => exact ⟨i, r1, h1 μ1 H1 _ Xt.refl g1 rfl⟩
    | _ => exact h1.elim)
def SlS (T : Tb) (r : V → Option Int → Option Int → Hp → VK → Prop) (f : D → Option Int → Option Int → LH → R D) : Prop := ∀ (W : WV) μ L H x d lo hi Q, Hg T μ L H → Rp μ L.length H d x → Fin Rp T W μ L.length H (f d lo hi L) Q → r x lo hi H Q
theorem ev_slice {r : V → Option Int → Option Int → Hp → VK → Prop} {f : D → Option Int → Option Int → LH → R D} {tl th : TO} {ml mh : LH → R (Option Int)} (ha : EvE T W ta env ma) (hl : EvO T W tl env ml) (hh : EvO T W th env mh) (hf : SlS T r f) :
    EvE T W (tSl r ta tl th) env fun L => (ma L).bind fun d L => (ml L).bind fun lo L => (mh L).bind fun hi L => f d lo hi L := fun μ L σ H Q g s h =>
  ha μ L σ H _ g s (Fin.bind h fun μ1 L1 H1 d x x1 g1 r1 h1 => hl μ1 L1 σ H1 _ g1 (s.mono x1) (Fin.bind h1 fun μ2 L2 H2 lo lo' x2 g2 e2 h2 => hh μ2 L2 σ H2 _ g2 ((s.mono x1).mono x2) (Fin.bind h2 fun μ3 L3 H3 hi hi' x3 g3 e3 h3 => by
    subst e2 e3
    exact hf _ μ3 L3 H3 x d _ _ Q g3 ((r1.mono x2).mono x3) h3)))
def cutA {α : Type} (xs : List α) (lo hi : Option Int) : List α := (xs.drop (HT.sIx xs.length 0 lo)).take (HT.sIx xs.length xs.length hi - HT.sIx xs.length 0 lo)
theorem rps_cut {μ : Mu} {k : Nat} {H : Hp} {ds : List D} {vs : List V} {lo hi : Option Int} (r : Rps μ k H ds vs) : Rps μ k H (cutA ds lo hi) (cutV vs lo hi) := by
  unfold cutA cutV
  rw [r.length]
  exact (r.drop _).take _
theorem cutA_whole {α : Type} {xs : List α} {lo hi : Option Int} (h : HT.sIx xs.length 0 lo = 0 ∧ HT.sIx xs.length xs.length hi = xs.length) : cutA xs lo hi = xs := by
  unfold cutA
  rw [h.1, h.2, List.drop_zero, Nat.sub_zero, List.take_length]
def slD : D → Option Int → Option Int → LH → R D
  | .tup xs, lo, hi, L => .ok (.tup (cutA xs lo hi)) L
  | .str z, lo, hi, L => if z.length ≤ 100000 then .ok (.str (Txt.slice z lo hi)) L else .bad
  | .ref n, lo, hi, L => match lstAt L n with
    | some xs => .ok (.ref L.length) (L ++ [.lst true (cutA xs lo hi)])
    | none => .bad
  | _, _, _, _ => .bad
def rSlD (K : PySem.W.Frag) : V → Option Int → Option Int → Hp → VK → Prop := fun x lo hi H Q => rSlL K x lo hi H Q ∨ (rSlA K x lo hi H Q ∨ C8.rSlX x lo hi H Q)
theorem sl_D : SlR X (rSlD X.K) := sl_list.or (sl_tupA.or C8.sl_txt)
theorem sls_D : SlS T (rSlD K) slD := fun W μ L H x d lo hi Q g rx h => by
  cases d with
  | tup xs =>
    obtain ⟨a, vs, e, ha, rs⟩ := rx
    refine .inr (.inl ⟨a, vs, e, .inl (.inl ha), fun z => ?_, fun z => ?_⟩)
    · rw [rs.length] at z
      have h : Fin Rp T W μ L.length H (.ok (.tup (cutA xs lo hi)) L) Q := h
      rw [cutA_whole z] at h
      exact h μ H _ Xt.refl g ⟨a, vs, rfl, ha, rs⟩
    · exact fin_tup g (rps_cut rs) h
  | str z =>
    unfold slD at h
    by_cases l : z.length ≤ 100000
    · simp only [if_pos l] at h
      exact .inr (.inr ⟨z, rx, sl5 l, h μ H _ Xt.refl g rfl⟩)
    · simp only [if_neg l] at h
      exact h.elim
  | ref n =>
    unfold slD at h
    cases q : lstAt L n with
    | none => simp only [q] at h; exact h.elim
    | some xs =>
      simp only [q] at h
      obtain ⟨vs, hs, rs⟩ := lst_at (K := K) g q
      exact .inl ⟨μ n, vs, rx.2, hs, fin_lst g (rps_cut rs) h⟩
  | _ => exact h.elim
/-! ### calls -/
theorem ev_callB {r : List V → Hp → VK → Prop} {f : List D → LH → R D} {t : TA} {m : LH → R (List D)} (ha : EvA T W t env m) (hf : CaS T r f) : EvE T W (tCB r t) env fun L => (m L).bind f := fun μ L σ H Q g s h =>
  ha μ L σ H _ g s (Fin.bind h fun μ1 L1 H1 ds xs x1 g1 r1 h1 => hf _ μ1 L1 H1 xs ds Q g1 r1 h1)
def altC (c : List D → Bool) (f f' : List D → LH → R D) : List D → LH → R D := fun ds L => if c ds = true then f ds L else f' ds L
theorem cas_or {c : List D → Bool} {r r' : List V → Hp → VK → Prop} {f f' : List D → LH → R D} (h : CaS T r f) (h' : CaS T r' f') : CaS T (fun xs H Q => r xs H Q ∨ r' xs H Q) (altC c f f') := fun W μ L H xs ds Q g rs q => by
  unfold altC at q
  by_cases z : c ds = true
  · rw [if_pos z] at q
    exact .inl (h W μ L H xs ds Q g rs q)
  · rw [if_neg z] at q
    exact .inr (h' W μ L H xs ds Q g rs q)
theorem rps1 {μ : Mu} {k : Nat} {H : Hp} {d : D} {xs : List V} (r : Rps μ k H [d] xs) : ∃ v, xs = [v] ∧ Rp μ k H d v := by
  obtain ⟨v, ws, e, r1, r2⟩ := r
  have r2 : ws = [] := r2
  subst r2
  exact ⟨v, e, r1⟩
theorem rps2 {μ : Mu} {k : Nat} {H : Hp} {d e : D} {xs : List V} (r : Rps μ k H [d, e] xs) : ∃ v w, xs = [v, w] ∧ Rp μ k H d v ∧ Rp μ k H e w := by
  obtain ⟨v, ws, z, r1, r2⟩ := r
  obtain ⟨w, z2, r3⟩ := rps1 r2
  subst z2
  exact ⟨v, w, z, r1, r3⟩
theorem rps3 {μ : Mu} {k : Nat} {H : Hp} {d e f : D} {xs : List V} (r : Rps μ k H [d, e, f] xs) : ∃ v w u, xs = [v, w, u] ∧ Rp μ k H d v ∧ Rp μ k H e w ∧ Rp μ k H f u := by
  obtain ⟨v, ws, z, r1, r2⟩ := r
  obtain ⟨w, u, z2, r3, r4⟩ := rps2 r2
  subst z2
  exact ⟨v, w, u, z, r1, r3, r4⟩
/-- len -/
def lenD : List D → LH → R D
  | [d], L => match seqD L d with
    | some xs => .ok (.int xs.length) L
    | none => match d with
      | .str z => if z.length ≤ 100000 then .ok (.int z.length) L else .bad
      | _ => .bad
  | _, _ => .bad
theorem cas_len : CaS T (fun xs H Q => ∃ x n, xs = [x] ∧ LenV K x H n ∧ Q (.int n) H) lenD := fun W μ L H xs ds Q g rs h => by
  match ds, rs, h with
  | [d], rs, h =>
    obtain ⟨v, e, r⟩ := rps1 rs
    unfold lenD at h
    cases q : seqD L d with
    | some ys =>
      simp only [q] at h
      obtain ⟨p, vs, ev, hq, rr⟩ := seq_of (K := K) g q r
      refine ⟨v, ys.length, e, ?_, h μ H _ Xt.refl g rfl⟩
      rw [ev, ← rr.length]
      rcases hq with hq | hq
      · exact .inl ⟨vs, hq, rfl⟩
      · exact .inr ⟨vs, hq, rfl⟩
    | none =>
      simp only [q] at h
      cases d with
      | str z =>
        simp only at h
        by_cases l : z.length ≤ 100000
        · rw [if_pos l] at h
          refine ⟨v, z.length, e, ?_, h μ H _ Xt.refl g rfl⟩
          rw [show v = .str z from r]
          exact ⟨sl5 l, rfl⟩
        · rw [if_neg l] at h
          exact h.elim
      | _ => exact h.elim
  | [], _, h => exact h.elim
  | _ :: _ :: _, _, h => exact h.elim
/-- tuple(xs) -/
def tupleD : List D → LH → R D
  | [d], L => match seqD L d with
    | some xs => .ok (.tup xs) L
    | none => .bad
  | _, _ => .bad
theorem cas_tuple : CaS T (fun xs H Q => ∃ p ys, xs = [.ref p] ∧ ((SqL K H p ys ∧ ∀ l, H l = none → Q (.ref l) (upd H l (.tup ys))) ∨ (SqT K H p ys ∧ Q (.ref p) H))) tupleD := fun W μ L H xs ds Q g rs h => by
  match ds, rs, h with
  | [d], rs, h =>
    obtain ⟨v, e, r⟩ := rps1 rs
    unfold tupleD at h
    cases q : seqD L d with
    | none => simp only [q] at h; exact h.elim
    | some ys =>
      simp only [q] at h
      cases d with
      | tup zs =>
        cases q
        have r0 := r
        obtain ⟨a, vs, ev, ha, rr⟩ := r
        subst ev
        exact ⟨a, vs, e, .inr ⟨.inl (.inl ha), h μ H _ Xt.refl g r0⟩⟩
      | ref n =>
        obtain ⟨vs, hs, rr⟩ := lst_at (K := K) g q
        rw [r.2] at e
        exact ⟨μ n, vs, e, .inl ⟨hs, fin_tup g rr h⟩⟩
      | _ => cases q
  | [], _, h => exact h.elim
  | _ :: _ :: _, _, h => exact h.elim
/-- list(xs) -/
def listD : List D → LH → R D
  | [d], L => match seqD L d with
    | some xs => .ok (.ref L.length) (L ++ [.lst true xs])
    | none => .bad
  | _, _ => .bad
theorem cas_list : CaS T (fun xs H Q => ∃ p ys, xs = [.ref p] ∧ (SqL K H p ys ∨ SqT K H p ys) ∧ ∀ l, H l = none → Q (.ref l) (upd H l (.lst ys))) listD := fun W μ L H xs ds Q g rs h => by
  match ds, rs, h with
  | [d], rs, h =>
    obtain ⟨v, e, r⟩ := rps1 rs
    unfold listD at h
    cases q : seqD L d with
    | none => simp only [q] at h; exact h.elim
    | some ys =>
      simp only [q] at h
      obtain ⟨p, vs, ev, hq, rr⟩ := seq_of (K := K) g q r
      rw [ev] at e
      exact ⟨p, vs, e, hq, fin_lst g rr h⟩
  | [], _, h => exact h.elim
  | _ :: _ :: _, _, h => exact h.elim
def intCD : List D → LH → R D
  | [.int i], L => .ok (.int i) L
  | [.bl k], L => .ok (.int (if k then 1 else 0)) L
  | _, _ => .bad
theorem cas_int : CaS T (fun xs H Q => (∃ i, xs = [.int i] ∧ Q (.int i) H) ∨ ∃ k, xs = [.bl k] ∧ Q (.int (if k then 1 else 0)) H) intCD := fun W μ L H xs ds Q g rs h => by
  match ds, rs, h with
  | [d], rs, h =>
    obtain ⟨v, e, r⟩ := rps1 rs
    cases d with
    | int i =>
      rw [show v = .int i from r] at e
      exact .inl ⟨i, e, h μ H _ Xt.refl g rfl⟩
    | bl k =>
      rw [show v = .bl k from r] at e
      exact .inr ⟨k, e, h μ H _ Xt.refl g rfl⟩
    | _ => exact h.elim
  | [], _, h => exact h.elim
  | a :: b :: c, _, h => cases a <;> exact h.elim
def absD : List D → LH → R D
  | [.int i], L => .ok (.int (if i < 0 then -i else i)) L
  | _, _ => .bad
theorem cas_abs : CaS T (fun xs H Q => ∃ i, xs = [.int i] ∧ Q (.int (if i < 0 then -i else i)) H) absD := fun W μ L H xs ds Q g rs h => by
  match ds, rs, h with
  | [d], rs, h =>
    obtain ⟨v, e, r⟩ := rps1 rs
    cases d with
    | int i =>
      rw [show v = .int i from r] at e
      exact ⟨i, e, h μ H _ Xt.refl g rfl⟩
    | _ => exact h.elim
  | [], _, h => exact h.elim
  | a :: b :: c, _, h => cases a <;> exact h.elim
def min2D : List D → LH → R D
  | [.int i, .int j], L => .ok (.int (if j < i then j else i)) L
  | _, _ => .bad
def max2D : List D → LH → R D
  | [.int i, .int j], L => .ok (.int (if j > i then j else i)) L
  | _, _ => .bad
theorem two_int {W : WV} {μ : Mu} {L : LH} {H : Hp} {xs : List V} {ds : List D} {Q : VK} {f : List D → LH → R D} (h0 : f [] L = .bad) (h1 : ∀ d e, (∀ i j, (d, e) ≠ (.int i, .int j)) → f [d, e] L = .bad) (h2 : ∀ d, f [d] L = .bad) (h3 : ∀ a b c r, f (a :: b :: c :: r) L = .bad)
    (rs : Rps μ L.length H ds xs) (h : Fin Rp T W μ L.length H (f ds L) Q) : ∃ i j, ds = [.int i, .int j] ∧ xs = [.int i, .int j] := by
  match ds, rs, h with
  | [], _, h => rw [h0] at h; exact h.elim
  | [d], _, h => rw [h2] at h; exact h.elim
  | a :: b :: c :: r, _, h => rw [h3] at h; exact h.elim
  | [d, e], rs, h =>
    obtain ⟨v, w, ex, r1, r2⟩ := rps2 rs
    by_cases z : ∃ i j, d = .int i ∧ e = .int j
    · obtain ⟨i, j, rfl, rfl⟩ := z
      refine ⟨i, j, rfl, ?_⟩
      rw [ex, show v = .int i from r1, show w = .int j from r2]
    · rw [h1 d e fun i j q => z ⟨i, j, by cases q; exact ⟨rfl, rfl⟩⟩] at h
      exact h.elim
theorem cas_min2 : CaS T (fun xs H Q => ∃ i j, xs = [.int i, .int j] ∧ Q (.int (if j < i then j else i)) H) min2D := fun W μ L H xs ds Q g rs h => by
  obtain ⟨i, j, rfl, e⟩ := two_int (f := min2D) rfl (fun d e z => by cases d <;> cases e <;> first | rfl | exact (z _ _ rfl).elim) (fun d => by cases d <;> rfl) (fun a b c r => by cases a <;> cases b <;> rfl) rs h
  exact ⟨i, j, e, h μ H _ Xt.refl g rfl⟩
theorem cas_max2 : CaS T (fun xs H Q => ∃ i j, xs = [.int i, .int j] ∧ Q (.int (if j > i then j else i)) H) max2D := fun W μ L H xs ds Q g rs h => by
  obtain ⟨i, j, rfl, e⟩ := two_int (f := max2D) rfl (fun d e z => by cases d <;> cases e <;> first | rfl | exact (z _ _ rfl).elim) (fun d => by cases d <;> rfl) (fun a b c r => by cases a <;> cases b <;> rfl) rs h
  exact ⟨i, j, e, h μ H _ Xt.refl g rfl⟩
/-- str(i) -/
def strD : List D → LH → R D
  | [.int i], L => if i.natAbs.log2 < 1920 then .ok (.str (toString i)) L else .bad
  | _, _ => .bad
theorem cas_str : CaS T (fun xs H Q => ∃ i : Int, xs = [.int i] ∧ i.natAbs.log2 < 1920 ∧ Q (.str (toString i)) H) strD := fun W μ L H xs ds Q g rs h => by
  match ds, rs, h with
  | [d], rs, h =>
    obtain ⟨v, e, r⟩ := rps1 rs
    cases d with
    | int i =>
      rw [show v = .int i from r] at e
      unfold strD at h
      by_cases c : i.natAbs.log2 < 1920
      · simp only [if_pos c] at h
        exact ⟨i, e, c, h μ H _ Xt.refl g rfl⟩
      · simp only [if_neg c] at h
        exact h.elim
    | _ => exact h.elim
  | [], _, h => exact h.elim
  | a :: b :: c, _, h => cases a <;> exact h.elim
/-! ### sorted, of ints -/
def insI (x : Int) : List Int → List Int
  | [] => [x]
  | y :: ys => if x ≤ y then x :: y :: ys else y :: insI x ys
def sortI : List Int → List Int
  | [] => []
  | x :: xs => insI x (sortI xs)
theorem insI_perm (x : Int) : ∀ ys : List Int, (insI x ys).Perm (x :: ys)
  | [] => .refl _
  | y :: ys => by
    unfold insI
    split
    · exact .refl _
    · exact ((insI_perm x ys).cons y).trans (.swap x y ys)
theorem sortI_perm : ∀ xs : List Int, (sortI xs).Perm xs
  | [] => .refl _
  | x :: xs => (insI_perm x _).trans ((sortI_perm xs).cons x)
theorem insI_sorted (x : Int) : ∀ {ys : List Int}, ys.Pairwise (· ≤ ·) → (insI x ys).Pairwise (· ≤ ·)
  | [], _ => List.pairwise_singleton _ _
  | y :: ys, h => by
    unfold insI
    have h1 := List.pairwise_cons.mp h
    split
    · rename_i hxy
      refine List.pairwise_cons.mpr ⟨fun z hz => ?_, h⟩
      rcases List.mem_cons.mp hz with rfl | hz
      · exact hxy
      · exact Int.le_trans hxy (h1.1 z hz)
    · rename_i hxy
      refine List.pairwise_cons.mpr ⟨fun z hz => ?_, insI_sorted x h1.2⟩
      rcases List.mem_cons.mp ((insI_perm x ys).mem_iff.mp hz) with rfl | hz
      · omega
      · exact h1.1 z hz
theorem sortI_sorted : ∀ xs : List Int, (sortI xs).Pairwise (· ≤ ·)
  | [] => .nil
  | x :: xs => insI_sorted x (sortI_sorted xs)
theorem sorted_one : ∀ {xs ys : List Int}, xs.Perm ys → xs.Pairwise (· ≤ ·) → ys.Pairwise (· ≤ ·) → xs = ys
  | [], ys, p, _, _ => (List.Perm.nil_eq p)
  | x :: xs, [], p, _, _ => absurd p.length_eq (by simp)
  | x :: xs, y :: ys, p, h1, h2 => by
    have a := List.pairwise_cons.mp h1
    have b := List.pairwise_cons.mp h2
    have e : x = y := by
      have m1 : x ∈ y :: ys := p.mem_iff.mp List.mem_cons_self
      have m2 : y ∈ x :: xs := p.mem_iff.mpr List.mem_cons_self
      rcases List.mem_cons.mp m1 with q | q
      · exact q
      · rcases List.mem_cons.mp m2 with q2 | q2
        · exact q2.symm
        · exact Int.le_antisymm (a.1 y q2) (b.1 x q)
    subst e
    rw [sorted_one (List.Perm.cons_inv p) a.2 b.2]
theorem sortI_of {xs ys : List Int} (p : ys.Perm xs) (s : ys.Pairwise (· ≤ ·)) : ys = sortI xs :=
  sorted_one (p.trans (sortI_perm xs).symm) s (sortI_sorted xs)
def sortedI : List D → LH → R D
  | [.ref n], L => match lstAt L n with
    | some xs => match intsD xs with
      | some ns => .ok (.ref L.length) (L ++ [.lst true ((sortI ns).map D.int)])
      | none => .bad
    | none => .bad
  | _, _ => .bad
theorem rps_ints {μ : Mu} {k : Nat} {H : Hp} : ∀ ns : List Int, Rps μ k H (ns.map D.int) (ns.map V.int)
  | [] => rfl
  | n :: ns => ⟨.int n, ns.map V.int, rfl, rfl, rps_ints ns⟩
theorem cas_sortedI : CaS T (rSortedI K) sortedI := fun W μ L H xs ds Q g rs h => by
  match ds, rs, h with
  | [d], rs, h =>
    obtain ⟨v, e, r⟩ := rps1 rs
    cases d with
    | ref n =>
      rw [r.2] at e
      unfold sortedI at h
      cases q : lstAt L n with
      | none => simp only [q] at h; exact h.elim
      | some ys =>
        simp only [q] at h
        cases q2 : intsD ys with
        | none => simp only [q2] at h; exact h.elim
        | some ns =>
          simp only [q2] at h
          obtain ⟨vs, hs, rr⟩ := lst_at (K := K) g q
          have ev := (ints_of q2 rr).1
          subst ev
          refine ⟨μ n, ns, e, hs, fun ns' p hp hw hn => ?_⟩
          rw [sortI_of hp hw]
          exact fin_lst g (rps_ints _) h p hn
    | _ => exact h.elim
  | [], _, h => exact h.elim
  | a :: b :: c, _, h => cases a <;> exact h.elim
/-! ### a list's methods -/
theorem ev_bm {Ty : String} {r : V → List V → Hp → VK → Prop} {f : D → List D → LH → R D} {c : D → LH → Bool} {t : TA} {m : LH → R (List D)} (ha : EvE T W ta env ma) (hm : EvA T W t env m) (hf : MtS T r f)
    (hc : ∀ μ L H d x, Hg T μ L H → Rp μ L.length H d x → c d L = true → tyV K Ty x H) : EvE T W (tBM K Ty r ta t) env fun L => (ma L).bind fun d L => if c d L = true then (m L).bind fun ds L => f d ds L else .bad := fun μ L σ H Q g s h =>
  ha μ L σ H _ g s (Fin.bind h fun μ1 L1 H1 d x x1 g1 r1 h1 => by
    by_cases z : c d L1 = true
    · rw [if_pos z] at h1
      exact ⟨hc μ1 L1 H1 d x g1 r1 z, hm μ1 L1 σ H1 _ g1 (s.mono x1) (Fin.bind h1 fun μ2 L2 H2 ds xs x2 g2 r2 h2 => hf _ μ2 L2 H2 x xs d ds Q g2 (r1.mono x2) r2 h2)⟩
    · rw [if_neg z] at h1
      exact h1.elim)
theorem ev_bm0 {Ty : String} {r : V → List V → Hp → VK → Prop} {f : D → List D → LH → R D} {c : D → LH → Bool} (ha : EvE T W ta env ma) (hf : MtS T r f)
    (hc : ∀ μ L H d x, Hg T μ L H → Rp μ L.length H d x → c d L = true → tyV K Ty x H) : EvE T W (tBM0 K Ty r ta) env fun L => (ma L).bind fun d L => if c d L = true then f d [] L else .bad := fun μ L σ H Q g s h =>
  ha μ L σ H _ g s (Fin.bind h fun μ1 L1 H1 d x x1 g1 r1 h1 => by
    by_cases z : c d L1 = true
    · rw [if_pos z] at h1
      exact ⟨hc μ1 L1 H1 d x g1 r1 z, hf _ μ1 L1 H1 x [] d [] Q g1 r1 rfl h1⟩
    · rw [if_neg z] at h1
      exact h1.elim)
def isL : D → LH → Bool
  | .ref n, L => (lstAt L n).isSome
  | _, _ => false
theorem isL_ty {μ : Mu} {L : LH} {H : Hp} {d : D} {x : V} (g : Hg T μ L H) (r : Rp μ L.length H d x) (h : isL d L = true) : tyV K "list" x H := by
  cases d with
  | ref n =>
    unfold isL at h
    obtain ⟨xs, q⟩ := Option.isSome_iff_exists.mp h
    obtain ⟨vs, hs, _⟩ := lst_at (K := K) g q
    rw [r.2]
    exact .inl ⟨rfl, vs, hs⟩
  | _ => cases h
def appendD : D → List D → LH → R D
  | .ref n, [y], L => match mutAt L n with
    | some xs => if xs.length < 100000 then .ok .non (L.set n (.lst true (xs ++ [y]))) else .bad
    | none => .bad
  | _, _, _ => .bad
theorem sl6 {n : Nat} (h : n < 100000) : n < sizeLine := Nat.lt_of_lt_of_le h (by decide)
theorem mts_append : MtS T rAppend appendD := fun W μ L H x xs d ds Q g rx rs h => by
  cases d with
  | ref n =>
    match ds, rs, h with
    | [y], rs, h =>
      obtain ⟨v, e, r⟩ := rps1 rs
      unfold appendD at h
      cases q : mutAt L n with
      | none => simp only [q] at h; exact h.elim
      | some ys =>
        simp only [q] at h
        by_cases c : ys.length < 100000
        · rw [if_pos c] at h
          obtain ⟨vs, hv, rv⟩ := mut_at g q
          refine ⟨μ n, vs, v, rx.2, e, hv, by rw [rv.length]; exact sl6 c, fin_set (d := .non) g q (rv.append (Rps.one r)) rfl h⟩
        · rw [if_neg c] at h
          exact h.elim
    | [], _, h => exact h.elim
    | _ :: _ :: _, _, h => exact h.elim
  | _ => exact h.elim
def popD : D → List D → LH → R D
  | .ref n, [], L => match mutAt L n with
    | some xs => match xs[xs.length - 1]? with
      | some y => .ok y (L.set n (.lst true xs.dropLast))
      | none => .bad
    | none => .bad
  | _, _, _ => .bad
theorem rps_dropLast {μ : Mu} {k : Nat} {H : Hp} {ds : List D} {vs : List V} (r : Rps μ k H ds vs) : Rps μ k H ds.dropLast vs.dropLast := by
  rw [List.dropLast_eq_take, List.dropLast_eq_take, r.length]
  exact r.take _
theorem mts_pop : MtS T rPop popD := fun W μ L H x xs d ds Q g rx rs h => by
  cases d with
  | ref n =>
    match ds, rs, h with
    | [], rs, h =>
      unfold popD at h
      cases q : mutAt L n with
      | none => simp only [q] at h; exact h.elim
      | some ys =>
        simp only [q] at h
        cases q2 : ys[ys.length - 1]? with
        | none => simp only [q2] at h; exact h.elim
        | some y =>
          simp only [q2] at h
          obtain ⟨vs, hv, rv⟩ := mut_at g q
          obtain ⟨v, e, r⟩ := rv.get q2
          exact ⟨μ n, vs, v, rx.2, rs, hv, by rw [rv.length]; exact e, fin_set g q (rps_dropLast rv) r h⟩
    | _ :: _, _, h => exact h.elim
  | _ => exact h.elim
def popAtD : D → List D → LH → R D
  | .ref n, [.int i], L => match mutAt L n with
    | some xs => match (if -(2 ^ 63) ≤ i ∧ i < 2 ^ 63 then seqIndex? i xs.length else none) with
      | some k => match xs[k]? with
        | some y => .ok y (L.set n (.lst true (xs.eraseIdx k)))
        | none => .bad
      | none => .bad
    | none => .bad
  | _, _, _ => .bad
theorem rps_erase {μ : Mu} {k : Nat} {H : Hp} {ds : List D} {vs : List V} (r : Rps μ k H ds vs) (i : Nat) : Rps μ k H (ds.eraseIdx i) (vs.eraseIdx i) := by
  rw [List.eraseIdx_eq_take_drop_succ, List.eraseIdx_eq_take_drop_succ]
  exact (r.take i).append (r.drop (i + 1))
theorem mts_popAt : MtS T rPopAt popAtD := fun W μ L H x xs d ds Q g rx rs h => by
  cases d with
  | ref n =>
    match ds, rs, h with
    | [.int i], rs, h =>
      obtain ⟨v, e, r⟩ := rps1 rs
      unfold popAtD at h
      cases q : mutAt L n with
      | none => simp only [q] at h; exact h.elim
      | some ys =>
        simp only [q] at h
        by_cases c : -(2 ^ 63) ≤ i ∧ i < 2 ^ 63
        · rw [if_pos c] at h
          cases q1 : seqIndex? i ys.length with
          | none => simp only [q1] at h; exact h.elim
          | some k =>
            simp only [q1] at h
            cases q2 : ys[k]? with
            | none => simp only [q2] at h; exact h.elim
            | some y =>
              simp only [q2] at h
              obtain ⟨vs, hv, rv⟩ := mut_at g q
              obtain ⟨u, e2, r2⟩ := rv.get q2
              rw [show v = .int i from r] at e
              exact ⟨μ n, vs, i, k, u, rx.2, e, hv, c.1, c.2, by rw [rv.length]; exact q1, e2, fin_set g q (rps_erase rv k) r2 h⟩
        · rw [if_neg c] at h
          exact h.elim
    | [], _, h => exact h.elim
    | a :: b :: c, _, h => cases a <;> exact h.elim
    | [.bl _], _, h => exact h.elim
    | [.non], _, h => exact h.elim
    | [.str _], _, h => exact h.elim
    | [.tup _], _, h => exact h.elim
    | [.ref _], _, h => exact h.elim
    | [.ty _], _, h => exact h.elim
    | [.cls _], _, h => exact h.elim
  | _ => exact h.elim
def altM (c : D → List D → Bool) (f f' : D → List D → LH → R D) : D → List D → LH → R D := fun d ds L => if c d ds = true then f d ds L else f' d ds L
theorem mts_or {c : D → List D → Bool} {r r' : V → List V → Hp → VK → Prop} {f f' : D → List D → LH → R D} (h : MtS T r f) (h' : MtS T r' f') : MtS T (fun x xs H Q => r x xs H Q ∨ r' x xs H Q) (altM c f f') := fun W μ L H x xs d ds Q g rx rs q => by
  unfold altM at q
  by_cases z : c d ds = true
  · rw [if_pos z] at q
    exact .inl (h W μ L H x xs d ds Q g rx rs q)
  · rw [if_neg z] at q
    exact .inr (h' W μ L H x xs d ds Q g rx rs q)
def insertD : D → List D → LH → R D
  | .ref n, [.int i, y], L => match mutAt L n with
    | some xs => if xs.length < 100000 ∧ 0 ≤ i ∧ i < 2 ^ 63 then .ok .non (L.set n (.lst true (xs.take i.toNat ++ [y] ++ xs.drop i.toNat))) else .bad
    | none => .bad
  | _, _, _ => .bad
def rInsert : V → List V → Hp → VK → Prop := fun x vs H Q => ∃ (l : Addr) (xs : List V) (i : Int) (y : V), x = .ref l ∧ vs = [.int i, y] ∧ H l = some (.lst xs) ∧ xs.length < sizeLine ∧ 0 ≤ i ∧ i < 2 ^ 63 ∧
    Q .non (upd H l (.lst (xs.take i.toNat ++ [y] ++ xs.drop i.toNat)))
theorem mts_insert : MtS T rInsert insertD := fun W μ L H x xs d ds Q g rx rs h => by
  cases d with
  | ref n =>
    match ds, rs, h with
    | [a, y], rs, h =>
      obtain ⟨v, w, e, r1, r2⟩ := rps2 rs
      cases a with
      | int i =>
        unfold insertD at h
        cases q : mutAt L n with
        | none => simp only [q] at h; exact h.elim
        | some ys =>
          simp only [q] at h
          by_cases c : ys.length < 100000 ∧ 0 ≤ i ∧ i < 2 ^ 63
          · rw [if_pos c] at h
            obtain ⟨vs, hv, rv⟩ := mut_at g q
            rw [show v = .int i from r1] at e
            exact ⟨μ n, vs, i, w, rx.2, e, hv, by rw [rv.length]; exact sl6 c.1, c.2.1, c.2.2, fin_set (d := .non) g q (((rv.take _).append (Rps.one r2)).append (rv.drop _)) rfl h⟩
          · rw [if_neg c] at h
            exact h.elim
      | _ => exact h.elim
    | [], _, h => exact h.elim
    | [a], _, h => cases a <;> exact h.elim
    | a :: b :: c :: r, _, h => cases a <;> exact h.elim
  | _ => exact h.elim
def clearD : D → List D → LH → R D
  | .ref n, [], L => match mutAt L n with
    | some _ => .ok .non (L.set n (.lst true []))
    | none => .bad
  | _, _, _ => .bad
theorem mts_clear : MtS T rClear clearD := fun W μ L H x xs d ds Q g rx rs h => by
  cases d with
  | ref n =>
    match ds, rs, h with
    | [], rs, h =>
      unfold clearD at h
      cases q : mutAt L n with
      | none => simp only [q] at h; exact h.elim
      | some ys =>
        simp only [q] at h
        obtain ⟨vs, hv, rv⟩ := mut_at g q
        exact ⟨μ n, vs, rx.2, rs, hv, fin_set (ys := []) (us := []) (d := .non) g q rfl rfl h⟩
    | _ :: _, _, h => exact h.elim
  | _ => exact h.elim
def reverseD : D → List D → LH → R D
  | .ref n, [], L => match mutAt L n with
    | some xs => .ok .non (L.set n (.lst true xs.reverse))
    | none => .bad
  | _, _, _ => .bad
theorem rps_rev {μ : Mu} {k : Nat} {H : Hp} : ∀ {ds : List D} {vs : List V}, Rps μ k H ds vs → Rps μ k H ds.reverse vs.reverse
  | [], _, h => by rw [h]; rfl
  | d :: ds, _, ⟨v, ws, e, r1, r2⟩ => by
    rw [e, List.reverse_cons, List.reverse_cons]
    exact (rps_rev r2).append (Rps.one r1)
theorem mts_reverse : MtS T rReverse reverseD := fun W μ L H x xs d ds Q g rx rs h => by
  cases d with
  | ref n =>
    match ds, rs, h with
    | [], rs, h =>
      unfold reverseD at h
      cases q : mutAt L n with
      | none => simp only [q] at h; exact h.elim
      | some ys =>
        simp only [q] at h
        obtain ⟨vs, hv, rv⟩ := mut_at g q
        exact ⟨μ n, vs, rx.2, rs, hv, fin_set (d := .non) g q (rps_rev rv) rfl h⟩
    | _ :: _, _, h => exact h.elim
  | _ => exact h.elim
def extendD : D → List D → LH → R D
  | .ref n, [.ref m], L => match mutAt L n, mutAt L m with
    | some xs, some zs => if xs.length + zs.length ≤ 100000 then .ok .non (L.set n (.lst true (xs ++ zs))) else .bad
    | _, _ => .bad
  | _, _, _ => .bad
theorem mts_extend : MtS T rExtend extendD := fun W μ L H x xs d ds Q g rx rs h => by
  cases d with
  | ref n =>
    match ds, rs, h with
    | [a], rs, h =>
      obtain ⟨v, e, r⟩ := rps1 rs
      cases a with
      | ref m =>
        unfold extendD at h
        cases q : mutAt L n with
        | none => simp only [q] at h; exact h.elim
        | some ys =>
          cases q2 : mutAt L m with
          | none => simp only [q, q2] at h; exact h.elim
          | some zs =>
            simp only [q, q2] at h
            by_cases c : ys.length + zs.length ≤ 100000
            · rw [if_pos c] at h
              obtain ⟨vs, hv, rv⟩ := mut_at g q
              obtain ⟨us, hu, ru⟩ := mut_at g q2
              rw [r.2] at e
              exact ⟨μ n, μ m, vs, us, rx.2, e, hv, hu, by rw [rv.length, ru.length]; exact sl5 c, fin_set (d := .non) g q (rv.append ru) rfl h⟩
            · rw [if_neg c] at h
              exact h.elim
      | _ => exact h.elim
    | [], _, h => exact h.elim
    | a :: b :: c, _, h => cases a <;> exact h.elim
  | _ => exact h.elim
end
end DI
set_option Elab.async false
set_option linter.all false
set_option maxRecDepth 100000
set_option maxHeartbeats 2000000
/-! Walks: over a list, a tuple or a text; enumerate and zip of lists and tuples in any mixture. -/
namespace DW
open PySem PySem.Spec PyProof.Rows L2
def SqK (b : Bool) (K : PySem.W.Frag) (H : Hp) (a : Addr) (xs : List V) : Prop := if b = true then SqL K H a xs else SqT K H a xs
def ItK (b : Bool) (h : Heap) (it a : Addr) (i : Nat) : Prop := if b = true then h.IsListIter it a i else h.IsTupleIter it a i
def IsK (b : Bool) (h : Heap) (a : Addr) (items : Array Value) : Prop := if b = true then h.IsList a items else h.IsTuple a items
def objK (b : Bool) (a : Addr) : Obj := if b = true then { cls := .type "list_iterator", data := .fields #[.ref a, .int 0 0] } else { cls := .type "tuple_iterator", data := .fields #[.ref a, .int 0 0] }
theorem begK (b : Bool) (a : Addr) (items : Array Value) : Begins (.ref a) (objK b a) fun h => IsK b h a items := by
  cases b with
  | true => exact begins_list a items
  | false => exact begins_tuple a items
theorem drawK {prog : Program} {w : World} {A : Around} (b : Bool) (hh : A.handled = none) (it a : Addr) (hne : a ≠ it) (items : Array Value) : Draws prog w A it [it, a] items.size (fun i v => items[i]? = some v) (fun i h => ItK b h it a i ∧ IsK b h a items) := by
  cases b with
  | true => exact Draws.list hh it a hne items
  | false => exact Draws.tuple hh it a hne items
theorem itK_new (b : Bool) {h : Heap} {it a : Addr} (e : h.get? it = some (objK b a)) : ItK b h it a 0 := by
  cases b with
  | true => exact ⟨_, e, rfl, rfl⟩
  | false => exact ⟨_, e, rfl, rfl⟩
theorem itK_at (b : Bool) {h h' : Heap} {it a : Addr} {i : Nat} (x : ItK b h it a i) (e : ∀ o, h.get? it = some o → h'.get? it = some o) : ItK b h' it a i := by
  cases b with
  | true => exact Heap.IsListIter.at x e
  | false => exact Heap.IsTupleIter.at x e
theorem itK_obj (b : Bool) {h : Heap} {it a : Addr} {i : Nat} (x : ItK b h it a i) : ∃ o, h.get? it = some o ∧ ∀ v, o.data ≠ .cell v := by
  cases b with
  | true =>
    obtain ⟨o, e, _, d⟩ := x
    exact ⟨o, e, fun v q => by rw [d] at q; cases q⟩
  | false =>
    obtain ⟨o, e, _, d⟩ := x
    exact ⟨o, e, fun v q => by rw [d] at q; cases q⟩
section
variable {X : Cx} {pins : List (Addr × Obj)} {σ : L2.St} {H : Hp} {s : Shared}
theorem seqK (b : Bool) {a : Addr} {xs : List V} (I : Inv X pins σ H s) (h : SqK b X.K H a xs) : ∃ its : List Value, Vals xs its ∧ IsK b s.heap a its.toArray := by
  cases b with
  | true =>
    obtain ⟨its, r, p, _⟩ := I.list h
    exact ⟨its, r, p.isList⟩
  | false =>
    obtain ⟨its, r, p, _⟩ := I.tuple h
    exact ⟨its, r, p⟩
theorem injK (b : Bool) {a : Addr} {xs ys : List V} (I : Inv X pins σ H s) (h : SqK b X.K H a xs) (h' : SqK b X.K H a ys) : xs = ys := by
  cases b with
  | true => exact I.list_inj h h'
  | false => exact I.tuple_inj h h'
theorem ltK (b : Bool) {h : Heap} {a : Addr} {items : Array Value} (x : IsK b h a items) : a < h.objs.size := by
  cases b with
  | true =>
    obtain ⟨o, e, _⟩ := x
    exact Heap.lt_size e
  | false =>
    obtain ⟨o, e, _⟩ := x
    exact Heap.lt_size e
/-- what the turn's own cells hold is no tracked sequence -/
theorem neK (b : Bool) {a c : Addr} {xs : List V} (I : Inv X pins σ H s) (h : SqK b X.K H a xs) (hc : ∃ o, s.heap.get? c = some o ∧ o.cls ≠ .type "list" ∧ o.cls ≠ .type "tuple") : a ≠ c := by
  intro z
  subst z
  obtain ⟨o, e, h1, h2⟩ := hc
  obtain ⟨its, _, p⟩ := seqK b I h
  cases b with
  | true =>
    obtain ⟨u, eu, cu, _⟩ := p
    rw [e] at eu
    cases eu
    exact h1 cu
  | false =>
    obtain ⟨u, eu, cu, _⟩ := p
    rw [e] at eu
    cases eu
    exact h2 cu
theorem apK (b : Bool) {a c : Addr} {xs : List V} (I : Inv X pins σ H s) (hq : SqK b X.K H a xs) (f : FpOk X pins H c) : a ≠ c := fun q => by
  have n := f.1
  rw [← q] at n
  have fin : ∀ o, X.K.lookup a = some o → False := fun o t => by
    have w1 := I.ok.mod.kin _ _ t
    rcases f.2.2.2.1 with k1 | k1
    · exact I.ok.noex _ _ w1 (by rw [q]; exact k1)
    · have h2 := Heap.lt_size w1
      rw [q] at h2
      exact Nat.lt_irrefl _ (Nat.lt_of_lt_of_le h2 (Nat.le_trans I.ok.bsz k1))
  cases b with
  | true =>
    rcases hq with (t | ⟨o, t⟩) | ⟨o, it, n', t, _⟩
    · rw [n] at t; cases t
    · rw [n] at t; cases t
    · exact fin _ t
  | false =>
    rcases hq with (t | ⟨o, t⟩) | ⟨o, it, n', t, _⟩
    · rw [n] at t; cases t
    · rw [n] at t; cases t
    · exact fin _ t
theorem itK_cls (b : Bool) {h : Heap} {it a : Addr} {i : Nat} (x : ItK b h it a i) : ∃ o, h.get? it = some o ∧ o.cls ≠ .type "list" ∧ o.cls ≠ .type "tuple" := by
  cases b with
  | true =>
    obtain ⟨o, e, c, _⟩ := x
    exact ⟨o, e, by rw [c]; decide, by rw [c]; decide⟩
  | false =>
    obtain ⟨o, e, c, _⟩ := x
    exact ⟨o, e, by rw [c]; decide, by rw [c]; decide⟩
end
/-! ### enumerate -/
def IteK (b : Bool) (K : PySem.W.Frag) (a : Addr) : It :=
  ⟨fun i H => ∃ (xs : List V) (x : V), SqK b K H a xs ∧ xs[i]? = some x, fun i H v H' => ∃ T x, v = .ref T ∧ H T = none ∧ H' = upd H T (.tup [.int (i : Nat), x]) ∧ ∀ xs, SqK b K H a xs → xs[i]? = some x, fun i H => ∃ xs : List V, SqK b K H a xs ∧ xs.length = i⟩
theorem enumK {P : Program} {w : World} {K : PySem.W.Frag} {elts : List Expr} {kk : Nat} {tpos : Pos} (b : Bool) (a e it : Addr) :
    Turn P w K (.Tuple elts kk tpos) (IteK b K a) [e, it] e (fun i h => (∃ old, IsEnum h e it ((i : Nat) : Int) old) ∧ ItK b h it a i ∧ e ≠ it) where
  mem := by simp
  obj := fun i h st c hc => by
    obtain ⟨⟨old, he⟩, hi, _⟩ := st
    have e' : c = e ∨ c = it := by simpa using hc
    rcases e' with z | z
    · rw [z]; exact ⟨_, he, fun v q => nomatch q⟩
    · rw [z]; exact itK_obj b hi
  keep := fun i h h' st k => let ⟨⟨old, he⟩, hi, hne⟩ := st; ⟨⟨old, k e (by simp) _ he⟩, itK_at b hi fun o q => k it (by simp) o q, hne⟩
  item := by
    intro X hP hw hK hc i pins s σ H E I hf st hg
    subst hP hw hK
    obtain ⟨⟨old, he⟩, hit, hne⟩ := st
    obtain ⟨xs, x, hq, hx⟩ := hg
    obtain ⟨its, rv, p⟩ := seqK b I hq
    obtain ⟨u, hu, ru⟩ := rv.get hx
    have hel : e < s.heap.objs.size := Heap.lt_size he
    have hil : it < s.heap.objs.size := by obtain ⟨_, q, _⟩ := itK_obj b hit; exact Heap.lt_size q
    have ae : a ≠ e := apK b I hq (hf e (by simp))
    have ai : a ≠ it := apK b I hq (hf it (by simp))
    have hlt : i < its.toArray.size := by
      have := (List.getElem?_eq_some_iff.mp hu).1
      simpa using this
    refine wpAny_pyNext_enum_itemD (drawK b (show X.A.in1.handled = none from I.ok.hd hc) it a ai its.toArray) he ⟨hit, p⟩ hlt hne (by simp only [List.mem_cons, List.not_mem_nil, or_false, not_or]; exact ⟨hne, fun z => ae z.symm⟩) fun u2 h' tk hP' ho hit' hT hsz hk => ?_
    have hu2 : u2 = u := by
      have q : its.toArray[i]? = some u := by simpa using hu
      rw [q] at hP'
      exact (Option.some.inj hP').symm
    subst hu2
    refine ⟨_, rfl, wpAny_letOwnedTupleGo_enum (s := { s with heap := h', toks := tk + 1 }) ho fun h'' he' sb => ?_⟩
    have hT2 : h''.get? s.heap.objs.size = some { cls := .type "tuple", data := .seq #[.int i tk, u2] } := (sb.2 _ (Nat.ne_of_gt hel)).trans hT
    have new : ObjOk X.prog X.w (upd H s.heap.objs.size (.tup [.int (i : Nat), x])) h'' s.heap.objs.size (.tup [.int (i : Nat), x]) :=
      ⟨by show 2 ≤ sizeLine; decide, [.int i tk, u2], .cons ⟨_, rfl⟩ (.cons ru .nil), ⟨_, hT2, rfl, _, rfl⟩⟩
    have I1 : Inv X pins σ (upd H s.heap.objs.size (.tup [.int (i : Nat), x])) { s with heap := h'', toks := tk + 1 } :=
      I.turnedNew (ch := [e, it]) (fun c ob hb q => (sb.2 c (fun z => hb (by simp [z]))).trans (hk c ob (fun z => hb (by simp [z])) (fun z => hb (by simp [z])) q)) hf (Nat.le_refl _) new
    refine ⟨.ref s.heap.objs.size, _, I1, rfl, ⟨_, x, rfl, I.hok.fresh (Nat.le_refl _), rfl, fun ys hy => by rw [injK b I hy hq]; exact hx⟩, ⟨⟨u2, ?_⟩, itK_at b hit'.1 fun o q => (sb.2 it (Ne.symm hne)).trans q, hne⟩, fun c hcm => ?_⟩
    · have e1 : ((i + 1 : Nat) : Int) = (i : Int) + 1 := by omega
      rw [e1]; exact he'
    · have hb' : c < s.heap.objs.size := by
        have e' : c = e ∨ c = it := by simpa using hcm
        rcases e' with z | z
        · rw [z]; exact hel
        · rw [z]; exact hil
      rw [upd_ne (Nat.ne_of_lt hb')]
      exact (hf c hcm).1
  done := by
    intro X hP hw hK hc i pins s σ H E I hf st hg
    subst hP hw hK
    obtain ⟨⟨old, he⟩, hit, hne⟩ := st
    obtain ⟨xs, hq, hx⟩ := hg
    obtain ⟨its, rv, p⟩ := seqK b I hq
    obtain ⟨f0, f1, f2, f3, f4, f5⟩ := hf it (by simp)
    have hl := rv.length
    have ai : a ≠ it := apK b I hq (hf it (by simp))
    have hs : i = its.toArray.size := by
      rw [List.size_toArray]
      omega
    refine wpAny_pyNext_enum_endD (drawK b (show X.A.in1.handled = none from I.ok.hd hc) it a ai its.toArray) he (by rw [← hs]; exact ⟨hit, p⟩) fun h' eb => ⟨rfl, I.turned (t' := s.toks) (fun c o hb q => eb c o hb q) f0 f1 f3 f4 f5⟩
  self := fun A i s Q E st h => let ⟨⟨_, he⟩, _⟩ := st; wpAny_pyIter_enum he h
set_option maxHeartbeats 2000000 in
theorem enum_new {v : Value} {o : Obj} {Hs : Heap → Prop} (B : Begins v o Hs) :
    Meets (Builtin.«enumerate.__new__» ⟨[.type "enumerate", v], []⟩) (fun _ R s => Hs s.heap ∧
      R (.ok (.ret (.ref (s.heap.push o).objs.size))) { s with heap := (s.heap.push o).push { cls := .type "enumerate", data := .fields #[.none, .bool false, .ref s.heap.objs.size, rawInt 0, .none, .none] } }) :=
  .of_wp fun prog w A R s h => by
    obtain ⟨hp, g, d, tk, os⟩ := s; obtain ⟨h1, h⟩ := h
    have hsub := sub_enumerate
    have go : ∀ {A' : Around} {E : Value → Shared → Prop} {Q : Value → Shared → Prop}, Q (.ref hp.objs.size) ⟨hp.push o, g, d, tk, os⟩ → wpAny (model prog w) A' (pyIter v) Q E ⟨hp, g, d, tk, os⟩ :=
      fun q => B.iter prog w _ _ ⟨hp, g, d, tk, os⟩ _ h1 q
    wp_walk using go
    refine wpAny_stack_any fun st => wpAny_pure ?_
    split
    · rename_i c _ _ _ _ _
      cases (c == Value.type "enumerate")
      · wp_walk using go
        exact ⟨_, rfl, h⟩
      · wp_walk using go
        exact ⟨_, rfl, h⟩
    · wp_walk using go
      exact ⟨_, rfl, h⟩
section
variable {prog : Program} {w : World} {A : Around} {E : Value → Shared → Prop} {s : Shared}
theorem enum_one {v : Value} {o : Obj} {Hs : Heap → Prop} {Q : Value → Shared → Prop} (B : Begins v o Hs) (h1 : Hs s.heap)
    (h : ∀ h', IsEnum h' (s.heap.objs.size + 1) s.heap.objs.size 0 .none → h'.get? s.heap.objs.size = some o →
      (∀ b u, s.heap.get? b = some u → h'.get? b = some u) → Q (.ref (s.heap.objs.size + 1)) { s with heap := h' }) :
    wpAny (model prog w) A (call (.type "enumerate") [v]) Q E s := by
  refine callType_new F.called_enumerate (by decide) (F.typeCall_enumerate_1 _) (F.newCall_enumerate_1 _) (fun obj => F.args_object_init_2 obj _) F.entry_enumerate_new (enum_new B) ⟨h1, ?_⟩
  have hz : (s.heap.push o).objs.size = s.heap.objs.size + 1 := Heap.size_push ..
  show _ ∧ _
  rw [hz]
  have he : IsEnum ((s.heap.push o).push { cls := .type "enumerate", data := .fields #[.none, .bool false, .ref s.heap.objs.size, rawInt 0, .none, .none] }) (s.heap.objs.size + 1) s.heap.objs.size 0 .none := by
    have := Heap.get?_push_size (s.heap.push o) (o := { cls := .type "enumerate", data := .fields #[.none, .bool false, .ref s.heap.objs.size, rawInt 0, .none, .none] }) rfl
    rw [hz] at this; exact this
  exact ⟨⟨_, he, rfl⟩, h _ he (Heap.get?_push_of_some _ (Heap.get?_push_size _ B.free)) fun b u x => Heap.get?_push_of_some _ (Heap.get?_push_of_some _ x)⟩
end
def iEnumK (K : PySem.W.Frag) (ta : TA) : TI := fun σ H R => ta σ H fun vs H1 => ∃ (b : Bool) (a : Addr) (xs : List V), vs = [.ref a] ∧ SqK b K H1 a xs ∧ R (IteK b K a) H1
theorem pi_enumK {X : Cx} {e : Expr} {ta : TA} {p pos tpos : Pos} {elts : List Expr} {kk : Nat} (hg : Gl X "enumerate") (hm : X.mg "enumerate" = none) (ha : PA X [e] ta) (hs : starEach [e] X.env = [(false, eval e X.env)]) :
    PI X (.Tuple elts kk tpos) (.Call (.Name "enumerate" p) [e] [] pos) (iEnumK X.K ta) := by
  refine ⟨fun pins s σ H R I h => ?_⟩
  refine Call_ (ld_blt I hg hm boot_enumerate (PyProof.Rows.callWith_type1 (thn (ha.run pos pins s σ H _ I h) fun us s1 ⟨vs, H1, I1, r1, q1⟩ => ?_) hs rfl))
  obtain ⟨b, a, xs, ex, hq, q⟩ := q1
  subst ex
  cases r1 with
  | cons r rr =>
    cases rr
    cases r
    obtain ⟨its, rv, p'⟩ := seqK b I1 hq
    refine enum_one (begK b a its.toArray) p' fun h' he hit hk => wpAny_pyIter_enum he ?_
    have I2 : Inv X pins σ H1 { s1 with heap := h' } := I1.kept (t' := s1.toks) hk
    refine ⟨s1.heap.objs.size + 1, [s1.heap.objs.size + 1, s1.heap.objs.size], _, _, H1, rfl, I2, enumK b a (s1.heap.objs.size + 1) s1.heap.objs.size, ⟨⟨.none, he⟩, itK_new b hit, Nat.succ_ne_self _⟩, fun c hb => ?_, q⟩
    have e' : c = s1.heap.objs.size + 1 ∨ c = s1.heap.objs.size := by simpa using hb
    have hle : s1.heap.objs.size ≤ c := by
      rcases e' with z | z
      · rw [z]; exact Nat.le_add_right _ _
      · rw [z]; exact Nat.le_refl _
    exact I1.fpOk hle (I1.hok.fresh hle)
/-! ### zip -/
def ItzK (b1 b2 : Bool) (K : PySem.W.Frag) (a1 a2 : Addr) : It :=
  ⟨fun i H => ∃ (xs ys : List V) (x y : V), SqK b1 K H a1 xs ∧ SqK b2 K H a2 ys ∧ xs[i]? = some x ∧ ys[i]? = some y,
    fun i H v H' => ∃ T x y, v = .ref T ∧ H T = none ∧ H' = upd H T (.tup [x, y]) ∧ (∀ xs, SqK b1 K H a1 xs → xs[i]? = some x) ∧ ∀ ys, SqK b2 K H a2 ys → ys[i]? = some y,
    fun i H => ∃ xs ys : List V, SqK b1 K H a1 xs ∧ SqK b2 K H a2 ys ∧ i ≤ xs.length ∧ i ≤ ys.length ∧ (i = xs.length ∨ i = ys.length)⟩
structure Ap (z TI TO i1 i2 : Addr) : Prop where
  TIz : TI ≠ z
  TOz : TO ≠ z
  i1z : i1 ≠ z
  i2z : i2 ≠ z
  TITO : TI ≠ TO
  TIi1 : TI ≠ i1
  TIi2 : TI ≠ i2
  TOi1 : TO ≠ i1
  TOi2 : TO ≠ i2
  i12 : i1 ≠ i2
theorem Ap.sep {z TI TO i1 i2 a1 a2 : Addr} (D : Ap z TI TO i1 i2) (z1 : a1 ≠ z) (z2 : a2 ≠ z) (t1 : a1 ≠ TO) (t2 : a2 ≠ TO) (c1 : i1 ≠ a2) (c2 : i2 ≠ a1) : ZipSep2 z TI TO i1 i2 [i1, a1] [i2, a2] := by
  refine ⟨D.TIz, D.TOz, D.TITO, D.TIi1, by simp, ?_, ?_, D.TIi2, by simp, ?_, ?_, ?_, ?_⟩ <;> simp only [List.mem_cons, List.not_mem_nil, or_false, not_or]
  · exact ⟨D.i1z.symm, z1.symm⟩
  · exact ⟨D.TOi1, t1.symm⟩
  · exact ⟨D.i2z.symm, z2.symm⟩
  · exact ⟨D.TOi2, t2.symm⟩
  · exact ⟨D.i12, c1⟩
  · exact ⟨D.i12.symm, c2⟩
theorem zipK {P : Program} {w : World} {K : PySem.W.Frag} {elts : List Expr} {kk : Nat} {tpos : Pos} (b1 b2 : Bool) {a1 a2 z TI TO i1 i2 : Addr} (D : Ap z TI TO i1 i2) :
    Turn P w K (.Tuple elts kk tpos) (ItzK b1 b2 K a1 a2) [z, TI, TO, i1, i2] z (fun i h => IsZip h z TI TO .none ∧ IsTupOf2 h TI (.ref i1) (.ref i2) ∧ (∃ x y, IsTupOf2 h TO x y) ∧ ItK b1 h i1 a1 i ∧ ItK b2 h i2 a2 i) where
  mem := by simp
  obj := fun i h st c hc => by
    obtain ⟨hz, hTI, ⟨x, y, hTO⟩, h1, h2⟩ := st
    have e' : c = z ∨ c = TI ∨ c = TO ∨ c = i1 ∨ c = i2 := by simpa using hc
    rcases e' with q | q | q | q | q
    · rw [q]; exact ⟨_, hz, fun v q => nomatch q⟩
    · rw [q]; exact ⟨_, hTI, fun v q => nomatch q⟩
    · rw [q]; exact ⟨_, hTO, fun v q => nomatch q⟩
    · rw [q]; exact itK_obj b1 h1
    · rw [q]; exact itK_obj b2 h2
  keep := fun i h h' st k => by
    obtain ⟨hz, hTI, ⟨x, y, hTO⟩, h1, h2⟩ := st
    exact ⟨k z (by simp) _ hz, k TI (by simp) _ hTI, ⟨x, y, k TO (by simp) _ hTO⟩, itK_at b1 h1 fun o q => k i1 (by simp) o q, itK_at b2 h2 fun o q => k i2 (by simp) o q⟩
  item := by
    intro X hP hw hK hc i pins s σ H E I hf st hg
    subst hP hw hK
    obtain ⟨hz, hTI, ⟨x0, y0, hTO⟩, h1, h2⟩ := st
    obtain ⟨xs, ys, x, y, hqx, hqy, hx, hy⟩ := hg
    obtain ⟨its, rv, p⟩ := seqK b1 I hqx
    obtain ⟨its2, rv2, p2⟩ := seqK b2 I hqy
    obtain ⟨u, hu, ru⟩ := rv.get hx
    obtain ⟨u2, hu2, ru2⟩ := rv2.get hy
    have hzl : z < s.heap.objs.size := Heap.lt_size hz
    have tr1 : ∀ {c : Addr}, c ∈ [z, TI, TO, i1, i2] → a1 ≠ c := fun {c} hcm => apK b1 I hqx (hf c hcm)
    have tr2 : ∀ {c : Addr}, c ∈ [z, TI, TO, i1, i2] → a2 ≠ c := fun {c} hcm => apK b2 I hqy (hf c hcm)
    have S := D.sep (a1 := a1) (a2 := a2) (tr1 (by simp)) (tr2 (by simp)) (tr1 (by simp)) (tr2 (by simp)) (fun q => tr2 (c := i1) (by simp) q.symm) (fun q => tr1 (c := i2) (by simp) q.symm)
    have l1 : i < its.toArray.size := by simpa using (List.getElem?_eq_some_iff.mp hu).1
    have l2 : i < its2.toArray.size := by simpa using (List.getElem?_eq_some_iff.mp hu2).1
    refine wpAny_pyNext_zipD2_item S (drawK b1 (show X.A.in1.handled = none from I.ok.hd hc) i1 a1 (tr1 (by simp)) its.toArray) (drawK b2 (show X.A.in1.handled = none from I.ok.hd hc) i2 a2 (tr2 (by simp)) its2.toArray) hz hTI hTO ⟨h1, p⟩ ⟨h2, p2⟩ l1 l2 fun v1 v2 h' tk q1 q2 z' TO' h1' h2' hT hsz hk => ?_
    have e1 : v1 = u := by
      have q : its.toArray[i]? = some u := by simpa using hu
      rw [q] at q1
      exact (Option.some.inj q1).symm
    have e2 : v2 = u2 := by
      have q : its2.toArray[i]? = some u2 := by simpa using hu2
      rw [q] at q2
      exact (Option.some.inj q2).symm
    subst e1 e2
    refine ⟨_, rfl, wpAny_letOwnedTupleGo_zip (s := { s with heap := h', toks := tk }) z' fun h'' z'' sb => ?_⟩
    have hT2 : h''.get? s.heap.objs.size = some { cls := .type "tuple", data := .seq #[v1, v2] } := (sb.2 _ (Nat.ne_of_gt hzl)).trans hT
    have new : ObjOk X.prog X.w (upd H s.heap.objs.size (.tup [x, y])) h'' s.heap.objs.size (.tup [x, y]) :=
      ⟨by show 2 ≤ sizeLine; decide, [v1, v2], .cons ru (.cons ru2 .nil), ⟨_, hT2, rfl, _, rfl⟩⟩
    have I1 : Inv X pins σ (upd H s.heap.objs.size (.tup [x, y])) { s with heap := h'', toks := tk } :=
      I.turnedNew (t' := tk) (ch := [z, TI, TO, i1, i2]) (fun c o hb q => (sb.2 c (fun q' => hb (by simp [q']))).trans (hk c o (fun q' => hb (by simp [q'])) (fun q' => hb (by simp [q'])) (fun q' => hb (by simp [q'])) (fun q' => hb (by simp [q'])) q)) hf (Nat.le_refl _) new
    refine ⟨.ref s.heap.objs.size, _, I1, rfl, ⟨_, x, y, rfl, I.hok.fresh (Nat.le_refl _), rfl, fun l hl => by rw [injK b1 I hl hqx]; exact hx, fun l hl => by rw [injK b2 I hl hqy]; exact hy⟩, ⟨z'', ?_, ⟨v1, v2, ?_⟩, ?_, ?_⟩, fun c hcm => ?_⟩
    · exact (sb.2 _ D.TIz).trans (hk _ _ D.TIz D.TITO D.TIi1 D.TIi2 hTI)
    · exact (sb.2 _ D.TOz).trans TO'
    · exact itK_at b1 h1'.1 fun o q => (sb.2 _ D.i1z).trans q
    · exact itK_at b2 h2'.1 fun o q => (sb.2 _ D.i2z).trans q
    · have hlt : c < s.heap.objs.size := by
        have e' : c = z ∨ c = TI ∨ c = TO ∨ c = i1 ∨ c = i2 := by simpa using hcm
        rcases e' with q | q | q | q | q
        · rw [q]; exact hzl
        · rw [q]; exact Heap.lt_size hTI
        · rw [q]; exact Heap.lt_size hTO
        · rw [q]; obtain ⟨_, e1, _⟩ := itK_obj b1 h1; exact Heap.lt_size e1
        · rw [q]; obtain ⟨_, e2, _⟩ := itK_obj b2 h2; exact Heap.lt_size e2
      rw [upd_ne (Nat.ne_of_lt hlt)]
      exact (hf c hcm).1
  done := by
    intro X hP hw hK hc i pins s σ H E I hf st hg
    subst hP hw hK
    obtain ⟨hz, hTI, ⟨x0, y0, hTO⟩, h1, h2⟩ := st
    obtain ⟨xs, ys, hqx, hqy, g1, g2, hend⟩ := hg
    obtain ⟨its, rv, p⟩ := seqK b1 I hqx
    obtain ⟨its2, rv2, p2⟩ := seqK b2 I hqy
    have l1 := rv.length
    have l2 := rv2.length
    have tr1 : ∀ {c : Addr}, c ∈ [z, TI, TO, i1, i2] → a1 ≠ c := fun {c} hcm => apK b1 I hqx (hf c hcm)
    have tr2 : ∀ {c : Addr}, c ∈ [z, TI, TO, i1, i2] → a2 ≠ c := fun {c} hcm => apK b2 I hqy (hf c hcm)
    have S := D.sep (a1 := a1) (a2 := a2) (tr1 (by simp)) (tr2 (by simp)) (tr1 (by simp)) (tr2 (by simp)) (fun q => tr2 (c := i1) (by simp) q.symm) (fun q => tr1 (c := i2) (by simp) q.symm)
    refine wpAny_pyNext_zipD2_end S (drawK b1 (show X.A.in1.handled = none from I.ok.hd hc) i1 a1 (tr1 (by simp)) its.toArray) (drawK b2 (show X.A.in1.handled = none from I.ok.hd hc) i2 a2 (tr2 (by simp)) its2.toArray) hz hTI hTO ⟨h1, p⟩ ⟨h2, p2⟩ (by simp only [List.size_toArray]; omega) (by simp only [List.size_toArray]; omega)
      (by simp only [List.size_toArray]; omega) fun h' tk hk => ⟨rfl, I.turnedL (t' := tk) (ch := [z, TI, TO, i1, i2]) (fun c o hb q =>
      hk c o (fun q' => hb (by simp [q'])) (fun q' => hb (by simp [q'])) (fun q' => hb (by simp [q'])) (fun q' => hb (by simp [q'])) q) hf⟩
  self := fun A i s Q E st h => wpAny_pyIter_zip st.1 h
def iZipK (K : PySem.W.Frag) (ta : TA) : TI := fun σ H R => ta σ H fun vs H1 => ∃ (b1 b2 : Bool) (a1 a2 : Addr) (xs ys : List V), vs = [.ref a1, .ref a2] ∧ SqK b1 K H1 a1 xs ∧ SqK b2 K H1 a2 ys ∧ R (ItzK b1 b2 K a1 a2) H1
theorem ap_new (n : Addr) : Ap (n + 4) (n + 2) (n + 3) n (n + 1) := by
  refine ⟨?_, ?_, ?_, ?_, ?_, ?_, ?_, ?_, ?_, ?_⟩ <;> intro (h : (_ : Nat) = _) <;> omega
theorem pi_zipK {X : Cx} {e e2 : Expr} {ta : TA} {p pos tpos : Pos} {elts : List Expr} {kk : Nat} (hg : Gl X "zip") (hm : X.mg "zip" = none) (ha : PA X [e, e2] ta)
    (hs : starEach [e, e2] X.env = (false, eval e X.env) :: starEach [e2] X.env) (hpl : (backTo pos (starEach [e2] X.env)).any (·.1) = false) :
    PI X (.Tuple elts kk tpos) (.Call (.Name "zip" p) [e, e2] [] pos) (iZipK X.K ta) := by
  refine ⟨fun pins s σ H R I h => ?_⟩
  refine Call_ (ld_blt I hg hm PyProof.Rows.boot_zip (PyProof.Rows.callWith_type1 (thn (ha.run pos pins s σ H _ I h) fun us s1 ⟨vs, H1, I1, r1, q1⟩ => ?_) hs hpl))
  obtain ⟨b1, b2, a, b, xs, ys, ex, hqx, hqy, q⟩ := q1
  subst ex
  cases r1 with
  | cons r rr =>
    cases rr with
    | cons r' rr =>
      cases rr
      cases r
      cases r'
      obtain ⟨its, rv, p1⟩ := seqK b1 I1 hqx
      obtain ⟨its2, rv2, p2⟩ := seqK b2 I1 hqy
      refine zip_begins2 (begK b1 a its.toArray) (begK b2 b its2.toArray) p1 p2 fun h' hz hTI hTO h1 h2 hsz hk => wpAny_pyIter_zip hz ?_
      have I2 : Inv X pins σ H1 { s1 with heap := h' } := I1.kept (t' := s1.toks) hk
      refine ⟨s1.heap.objs.size + 4, [s1.heap.objs.size + 4, s1.heap.objs.size + 2, s1.heap.objs.size + 3, s1.heap.objs.size, s1.heap.objs.size + 1], _, _, H1, rfl, I2, zipK b1 b2 (ap_new _), ⟨hz, hTI, ⟨_, _, hTO⟩, itK_new b1 h1, itK_new b2 h2⟩, fun c hcm => ?_, q⟩
      have e' : c = s1.heap.objs.size + 4 ∨ c = s1.heap.objs.size + 2 ∨ c = s1.heap.objs.size + 3 ∨ c = s1.heap.objs.size ∨ c = s1.heap.objs.size + 1 := by simpa using hcm
      have hle : s1.heap.objs.size ≤ c := by
        rcases e' with z | z | z | z | z
        · rw [z]; exact Nat.le_add_right _ _
        · rw [z]; exact Nat.le_add_right _ _
        · rw [z]; exact Nat.le_add_right _ _
        · rw [z]; exact Nat.le_refl _
        · rw [z]; exact Nat.le_add_right _ _
      exact I1.fpOk hle (I1.hok.fresh hle)
/-! ### a list, a tuple or a text -/
def iSeqA (K : PySem.W.Frag) (tl : TE) : TI := fun σ H R => tl σ H fun x H1 => (∃ a, x = .ref a ∧ (∃ xs, SqL K H1 a xs) ∧ R (Itl K a) H1) ∨ (∃ a, x = .ref a ∧ (∃ xs, SqT K H1 a xs) ∧ R (Itt K a) H1) ∨ ∃ z, x = .str z ∧ R (Its z) H1
theorem pi_seqA {X : Cx} {tg l : Expr} {tl : TE} (hl : PE X l tl) : PI X tg l (iSeqA X.K tl) := by
  refine ⟨fun pins s σ H R I h => ?_⟩
  refine thn (hl.run pins s σ H _ I h) fun v s1 ⟨x, H1, I1, r1, q1⟩ => ?_
  rcases q1 with ⟨a, e, ⟨xs, hq⟩, q⟩ | ⟨a, e, ⟨xs, hq⟩, q⟩ | ⟨z, e, q⟩
  · subst e
    cases r1
    obtain ⟨its, rv, p, hz⟩ := I1.list hq
    exact wpAny_pyIter_list p.isList (pi_one (tk := s1.toks) I1 _ (turn_list a _) ⟨_, Heap.get?_push_size _ rfl, rfl, rfl⟩ q)
  · subst e
    cases r1
    obtain ⟨its, rv, p, hz⟩ := I1.tuple hq
    exact wpAny_pyIter_tuple (show s1.heap.IsTuple a its.toArray from p) (pi_one (tk := s1.toks) I1 _ (turn_tuple a _) ⟨_, Heap.get?_push_size _ rfl, rfl, rfl⟩ q)
  · subst e
    obtain ⟨t, rfl⟩ := r1
    cases ha : z.cps.all (· < 128)
    · exact wpAny_pyIter_wide ha (pi_one (tk := s1.toks) I1 _ (turn_str _ z t "str_iterator" (.inr rfl)) ⟨_, Heap.get?_push_size _ rfl, rfl, rfl⟩ q)
    · exact wpAny_pyIter_ascii ha (pi_one (tk := s1.toks) I1 _ (turn_str _ z t "str_ascii_iterator" (.inl rfl)) ⟨_, Heap.get?_push_size _ rfl, rfl, rfl⟩ q)
end DW
set_option Elab.async false
set_option linter.all false
set_option maxRecDepth 100000
set_option maxHeartbeats 2000000
/-! Sources, targets, statements, comprehensions, any and all on plain data. -/
namespace DI
open PySem PySem.Spec PyProof.Rows L2 GxR DW
/-! ### sources -/
inductive Sq where
  | t (xs : List D)
  | l (n : Nat)
def Sq.get (L : LH) : Sq → Option (List D)
  | .t xs => some xs
  | .l n => lstAt L n
inductive Src where
  | one (s : Sq)
  | rng (lo : Int) (n : Nat)
  | chars (z : Str)
  | zip (s1 s2 : Sq)
  | enum (s : Sq)
/-- none: no answer; some none: the end -/
def Src.at (L : LH) : Src → Nat → Option (Option D)
  | .one s, i => match s.get L with
    | some xs => some xs[i]?
    | none => none
  | .rng lo n, i => some (if i < n then some (.int (lo + i)) else none)
  | .chars z, i => some (match z.cps[i]? with
    | some c => some (.str ⟨#[c]⟩)
    | none => none)
  | .zip s1 s2, i => match s1.get L, s2.get L with
    | some xs, some ys => match xs[i]?, ys[i]? with
      | some x, some y => some (some (.tup [x, y]))
      | _, _ => if i ≤ xs.length ∧ i ≤ ys.length then some none else none
    | _, _ => none
  | .enum s, i => match s.get L with
    | some xs => match xs[i]? with
      | some x => some (some (.tup [.int (i : Nat), x]))
      | none => if xs.length = i then some none else none
    | none => none
/-- the walk J goes as s does, from here on -/
def Fol (T : Tb) (J : It) (s : Src) (μ0 : Mu) (k0 : Nat) (H0 : Hp) : Prop := ∀ μ L H i, Xt μ0 k0 H0 μ L.length H → Hg T μ L H →
  (s.at L i = some none → J.stop i H) ∧ ∀ d, s.at L i = some (some d) → J.go i H ∧ ∀ x H', J.yld i H x H' → Xt μ L.length H μ L.length H' ∧ Hg T μ L H' ∧ Rp μ L.length H' d x
def EvI (T : Tb) (W : WX) (wi : TI) (env : Sl) (m : LH → R Src) : Prop := ∀ μ L σ H Q, Hg T μ L H → SOk μ L.length H env σ → Fin (fun μ k H s J => Fol T J s μ k H) T (fun c d H => W c d σ H) μ L.length H (m L) Q → wi σ H Q
section
variable {T : Tb} {K : PySem.W.Frag} {W : WX} {env : Sl}
/-- a sequence as it stands in any later state -/
def SqV (T : Tb) (K : PySem.W.Frag) (b : Bool) (a : Addr) (s : Sq) (μ0 : Mu) (k0 : Nat) (H0 : Hp) : Prop := ∀ μ L H xs, Xt μ0 k0 H0 μ L.length H → Hg T μ L H → s.get L = some xs → ∃ vs, SqK b K H a vs ∧ Rps μ L.length H xs vs
def sqD : D → Option Sq
  | .tup xs => some (.t xs)
  | .ref n => some (.l n)
  | _ => none
theorem sq_v {μ : Mu} {L : LH} {H : Hp} {d : D} {v : V} {s : Sq} (h : sqD d = some s) (r : Rp μ L.length H d v) : ∃ b a, v = .ref a ∧ SqV T K b a s μ L.length H := by
  cases d with
  | tup xs =>
    cases h
    obtain ⟨a, vs, e, ha, rs⟩ := r
    exact ⟨false, a, e, fun μ' L' H' ys x g q => by
      cases q
      exact ⟨vs, .inl (.inl (x.tup _ _ ha)), rs.mono x⟩⟩
  | ref n =>
    cases h
    exact ⟨true, μ n, r.2, fun μ' L' H' ys x g q => by
      obtain ⟨vs, hs, rs⟩ := lst_at (K := K) g q
      rw [x.mu n r.1] at hs
      exact ⟨vs, hs, rs⟩⟩
  | _ => cases h
theorem fol_l {a : Addr} {s : Sq} {μ : Mu} {k : Nat} {H : Hp} (h : SqV T K true a s μ k H) : Fol T (Itl K a) (.one s) μ k H := fun μ' L' H' i x g => by
  refine ⟨fun e => ?_, fun d e => ?_⟩
  · cases q : s.get L' with
    | none => simp only [Src.at, q] at e; cases e
    | some xs =>
      simp only [Src.at, q] at e
      obtain ⟨vs, hs, rs⟩ := h _ _ _ xs x g q
      refine ⟨vs, hs, ?_⟩
      rw [rs.length]
      exact List.getElem?_eq_none_iff.mp (Option.some.inj e)
  · cases q : s.get L' with
    | none => simp only [Src.at, q] at e; cases e
    | some xs =>
      simp only [Src.at, q] at e
      obtain ⟨vs, hs, rs⟩ := h _ _ _ xs x g q
      obtain ⟨v, hv, rv⟩ := rs.get (Option.some.inj e)
      refine ⟨⟨vs, v, hs, hv⟩, fun y H2 hy => ?_⟩
      obtain ⟨e1, hy⟩ := hy
      subst e1
      have e2 := hy vs hs
      rw [hv] at e2
      cases e2
      exact ⟨Xt.refl, g, rv⟩
theorem fol_t {a : Addr} {s : Sq} {μ : Mu} {k : Nat} {H : Hp} (h : SqV T K false a s μ k H) : Fol T (Itt K a) (.one s) μ k H := fun μ' L' H' i x g => by
  refine ⟨fun e => ?_, fun d e => ?_⟩
  · cases q : s.get L' with
    | none => simp only [Src.at, q] at e; cases e
    | some xs =>
      simp only [Src.at, q] at e
      obtain ⟨vs, hs, rs⟩ := h _ _ _ xs x g q
      refine ⟨vs, hs, ?_⟩
      rw [rs.length]
      exact List.getElem?_eq_none_iff.mp (Option.some.inj e)
  · cases q : s.get L' with
    | none => simp only [Src.at, q] at e; cases e
    | some xs =>
      simp only [Src.at, q] at e
      obtain ⟨vs, hs, rs⟩ := h _ _ _ xs x g q
      obtain ⟨v, hv, rv⟩ := rs.get (Option.some.inj e)
      refine ⟨⟨vs, v, hs, hv⟩, fun y H2 hy => ?_⟩
      obtain ⟨e1, hy⟩ := hy
      subst e1
      have e2 := hy vs hs
      rw [hv] at e2
      cases e2
      exact ⟨Xt.refl, g, rv⟩
def srcD (d : D) (L : LH) : R Src := match sqD d with
  | some s => match s.get L with
    | some _ => .ok (.one s) L
    | none => .bad
  | none => match d with
    | .str z => .ok (.chars z) L
    | _ => .bad
theorem ei_seq {te : TE} {m : LH → R D} (he : EvE T W te env m) : EvI T W (iSeqA K te) env fun L => (m L).bind srcD := fun μ L σ H Q g s h =>
  he μ L σ H _ g s (Fin.bind h fun μ1 L1 H1 d x x1 g1 r1 h1 => by
    unfold srcD at h1
    cases q : sqD d with
    | some sq =>
      simp only [q] at h1
      cases q2 : sq.get L1 with
      | none => simp only [q2] at h1; exact h1.elim
      | some xs =>
        simp only [q2] at h1
        obtain ⟨b, a, ex, hv⟩ := sq_v (T := T) (K := K) q r1
        obtain ⟨vs, hs, _⟩ := hv _ _ _ xs Xt.refl g1 q2
        cases b with
        | true => exact .inl ⟨a, ex, ⟨vs, hs⟩, h1 μ1 H1 _ Xt.refl g1 (fol_l hv)⟩
        | false => exact .inr (.inl ⟨a, ex, ⟨vs, hs⟩, h1 μ1 H1 _ Xt.refl g1 (fol_t hv)⟩)
    | none =>
      simp only [q] at h1
      cases d with
      | str z =>
        refine .inr (.inr ⟨z, r1, h1 μ1 H1 _ Xt.refl g1 fun μ2 L2 H2 i x2 g2 => ⟨fun e => ?_, fun d e => ?_⟩⟩)
        · show z.cps.size ≤ i
          cases q3 : z.cps[i]? with
          | none => exact Array.getElem?_eq_none_iff.mp q3
          | some c => simp only [Src.at, q3] at e; cases e
        · cases q3 : z.cps[i]? with
          | none => simp only [Src.at, q3] at e; cases e
          | some c =>
            simp only [Src.at, q3] at e
            cases e
            refine ⟨(Array.getElem?_eq_some_iff.mp q3).1, fun y H3 hy => ?_⟩
            obtain ⟨e1, c', e2, e3⟩ := hy
            subst e1
            rw [q3] at e2
            cases e2
            exact ⟨Xt.refl, g2, e3⟩
      | _ => exact h1.elim)
theorem fol_r {lo : Int} {n : Nat} {μ : Mu} {k : Nat} {H : Hp} : Fol T (Itr lo n) (.rng lo n) μ k H := fun μ' L' H' i x g => by
  refine ⟨fun e => ?_, fun d e => ?_⟩
  · show n ≤ i
    by_cases c : i < n
    · simp only [Src.at, if_pos c] at e
      cases e
    · omega
  · by_cases c : i < n
    · simp only [Src.at, if_pos c] at e
      cases e
      refine ⟨c, fun y H2 hy => ?_⟩
      obtain ⟨e1, e2⟩ := hy
      subst e1
      exact ⟨Xt.refl, g, e2⟩
    · simp only [Src.at, if_neg c] at e
      cases e
def rng1D (ds : List D) (L : LH) : R Src := match ds with
  | [.int j] => if -100000 ≤ j ∧ j ≤ 100000 then .ok (.rng 0 j.toNat) L else .bad
  | _ => .bad
def rng2D (ds : List D) (L : LH) : R Src := match ds with
  | [.int i, .int j] => if -100000 ≤ i ∧ i ≤ 100000 ∧ -100000 ≤ j ∧ j ≤ 100000 then .ok (.rng i (j - i).toNat) L else .bad
  | _ => .bad
theorem ei_rng1 {ta : TA} {m : LH → R (List D)} (he : EvA T W ta env m) : EvI T W (iRng1 ta) env fun L => (m L).bind rng1D := fun μ L σ H Q g s h =>
  he μ L σ H _ g s (Fin.bind h fun μ1 L1 H1 ds xs x1 g1 r1 h1 => by
    match ds, r1, h1 with
    | [d], r1, h1 =>
      obtain ⟨v, e, r⟩ := rps1 r1
      cases d with
      | int j =>
        unfold rng1D at h1
        by_cases c : -100000 ≤ j ∧ j ≤ 100000
        · simp only [if_pos c] at h1
          rw [show v = .int j from r] at e
          exact ⟨j, e, by omega, by omega, h1 μ1 H1 _ Xt.refl g1 fol_r⟩
        · simp only [if_neg c] at h1
          exact h1.elim
      | _ => exact h1.elim
    | [], _, h1 => exact h1.elim
    | a :: b :: c, _, h1 => cases a <;> exact h1.elim)
theorem ei_rng2 {ta : TA} {m : LH → R (List D)} (he : EvA T W ta env m) : EvI T W (iRng2 ta) env fun L => (m L).bind rng2D := fun μ L σ H Q g s h =>
  he μ L σ H _ g s (Fin.bind h fun μ1 L1 H1 ds xs x1 g1 r1 h1 => by
    match ds, r1, h1 with
    | [d, d2], r1, h1 =>
      obtain ⟨v, w, e, r, r2⟩ := rps2 r1
      cases d with
      | int i =>
        cases d2 with
        | int j =>
          unfold rng2D at h1
          by_cases c : -100000 ≤ i ∧ i ≤ 100000 ∧ -100000 ≤ j ∧ j ≤ 100000
          · simp only [if_pos c] at h1
            rw [show v = .int i from r, show w = .int j from r2] at e
            exact ⟨i, j, e, by omega, h1 μ1 H1 _ Xt.refl g1 fol_r⟩
          · simp only [if_neg c] at h1
            exact h1.elim
        | _ => exact h1.elim
      | _ => exact h1.elim
    | [], _, h1 => exact h1.elim
    | [a], _, h1 => cases a <;> exact h1.elim
    | a :: b :: c :: r, _, h1 => cases a <;> cases b <;> exact h1.elim)
theorem xt_tup {μ : Mu} {L : LH} {H : Hp} {p : Addr} {vs : List V} {ds : List D} (g : Hg T μ L H) (hp : H p = none) (r : Rps μ L.length H ds vs) : Xt μ L.length H μ L.length (upd H p (.tup vs)) ∧ Hg T μ L (upd H p (.tup vs)) ∧ Rp μ L.length (upd H p (.tup vs)) (.tup ds) (.ref p) :=
  ⟨xt_upd hp, g.junk hp, p, vs, rfl, upd_same, r.mono (xt_upd hp)⟩
def enumD (ds : List D) (L : LH) : R Src := match ds with
  | [d] => match sqD d with
    | some s => match s.get L with
      | some _ => .ok (.enum s) L
      | none => .bad
    | none => .bad
  | _ => .bad
theorem ei_enum {ta : TA} {m : LH → R (List D)} (he : EvA T W ta env m) : EvI T W (iEnumK K ta) env fun L => (m L).bind enumD := fun μ L σ H Q g s h =>
  he μ L σ H _ g s (Fin.bind h fun μ1 L1 H1 ds xs x1 g1 r1 h1 => by
    match ds, r1, h1 with
    | [d], r1, h1 =>
      obtain ⟨v, e, r⟩ := rps1 r1
      unfold enumD at h1
      cases q : sqD d with
      | none => simp only [q] at h1; exact h1.elim
      | some sq =>
        simp only [q] at h1
        cases q2 : sq.get L1 with
        | none => simp only [q2] at h1; exact h1.elim
        | some ys =>
          simp only [q2] at h1
          obtain ⟨b, a, ex, hv⟩ := sq_v (T := T) (K := K) q r
          obtain ⟨vs, hs, _⟩ := hv _ _ _ ys Xt.refl g1 q2
          rw [ex] at e
          refine ⟨b, a, vs, e, hs, h1 μ1 H1 _ Xt.refl g1 fun μ2 L2 H2 i x2 g2 => ⟨fun e2 => ?_, fun d2 e2 => ?_⟩⟩
          · cases q3 : sq.get L2 with
            | none => simp only [Src.at, q3] at e2; cases e2
            | some zs =>
              simp only [Src.at, q3] at e2
              obtain ⟨us, hu, ru⟩ := hv _ _ _ zs x2 g2 q3
              cases q4 : zs[i]? with
              | some z => simp only [q4] at e2; cases e2
              | none =>
                simp only [q4] at e2
                by_cases c : zs.length = i
                · exact ⟨us, hu, by rw [ru.length]; exact c⟩
                · rw [if_neg c] at e2
                  cases e2
          · cases q3 : sq.get L2 with
            | none => simp only [Src.at, q3] at e2; cases e2
            | some zs =>
              simp only [Src.at, q3] at e2
              obtain ⟨us, hu, ru⟩ := hv _ _ _ zs x2 g2 q3
              cases q4 : zs[i]? with
              | none =>
                simp only [q4] at e2
                by_cases c : zs.length = i
                · rw [if_pos c] at e2
                  cases e2
                · rw [if_neg c] at e2
                  cases e2
              | some z =>
                simp only [q4] at e2
                cases e2
                obtain ⟨u, hz, rz⟩ := ru.get q4
                refine ⟨⟨us, u, hu, hz⟩, fun y H3 hy => ?_⟩
                obtain ⟨p, y2, e3, hn, e4, e5⟩ := hy
                have e6 := e5 us hu
                rw [hz] at e6
                cases e6
                subst e3 e4
                exact xt_tup g2 hn ⟨.int (i : Nat), [u], rfl, rfl, Rps.one rz⟩
    | [], _, h1 => exact h1.elim
    | a :: b :: c, _, h1 => exact h1.elim)
def zipD (ds : List D) (L : LH) : R Src := match ds with
  | [d, e] => match sqD d, sqD e with
    | some s, some t => match s.get L, t.get L with
      | some _, some _ => .ok (.zip s t) L
      | _, _ => .bad
    | _, _ => .bad
  | _ => .bad
theorem ei_zip {ta : TA} {m : LH → R (List D)} (he : EvA T W ta env m) : EvI T W (iZipK K ta) env fun L => (m L).bind zipD := fun μ L σ H Q g s h =>
  he μ L σ H _ g s (Fin.bind h fun μ1 L1 H1 ds xs x1 g1 r1 h1 => by
    match ds, r1, h1 with
    | [d, d'], r1, h1 =>
      obtain ⟨v, v', e, r, r'⟩ := rps2 r1
      unfold zipD at h1
      cases q : sqD d with
      | none => simp only [q] at h1; exact h1.elim
      | some sq =>
        cases q' : sqD d' with
        | none => simp only [q, q'] at h1; exact h1.elim
        | some sq' =>
          simp only [q, q'] at h1
          cases q2 : sq.get L1 with
          | none => simp only [q2] at h1; exact h1.elim
          | some ys =>
            cases q2' : sq'.get L1 with
            | none => simp only [q2, q2'] at h1; exact h1.elim
            | some ys' =>
              simp only [q2, q2'] at h1
              obtain ⟨b, a, ex, hv⟩ := sq_v (T := T) (K := K) q r
              obtain ⟨vs, hs, _⟩ := hv _ _ _ ys Xt.refl g1 q2
              obtain ⟨b', a', ex', hv'⟩ := sq_v (T := T) (K := K) q' r'
              obtain ⟨vs', hs', _⟩ := hv' _ _ _ ys' Xt.refl g1 q2'
              rw [ex, ex'] at e
              refine ⟨b, b', a, a', vs, vs', e, hs, hs', h1 μ1 H1 _ Xt.refl g1 fun μ2 L2 H2 i x2 g2 => ⟨fun e2 => ?_, fun d2 e2 => ?_⟩⟩
              · cases q3 : sq.get L2 with
                | none => simp only [Src.at, q3] at e2; cases e2
                | some zs =>
                  cases q3' : sq'.get L2 with
                  | none => simp only [Src.at, q3, q3'] at e2; cases e2
                  | some zs' =>
                    simp only [Src.at, q3, q3'] at e2
                    obtain ⟨us, hu, ru⟩ := hv _ _ _ zs x2 g2 q3
                    obtain ⟨us', hu', ru'⟩ := hv' _ _ _ zs' x2 g2 q3'
                    have fin : (if i ≤ zs.length ∧ i ≤ zs'.length then some none else none : Option (Option D)) = some none → (zs[i]? = none ∨ zs'[i]? = none) → (ItzK b b' K a a').stop i H2 := fun e3 e4 => by
                      by_cases c : i ≤ zs.length ∧ i ≤ zs'.length
                      · refine ⟨us, us', hu, hu', by rw [ru.length]; exact c.1, by rw [ru'.length]; exact c.2, ?_⟩
                        rw [ru.length, ru'.length]
                        rcases e4 with e4 | e4
                        · have := List.getElem?_eq_none_iff.mp e4
                          omega
                        · have := List.getElem?_eq_none_iff.mp e4
                          omega
                      · rw [if_neg c] at e3
                        cases e3
                    cases q4 : zs[i]? with
                    | none => simp only [q4] at e2; exact fin e2 (.inl q4)
                    | some z =>
                      cases q4' : zs'[i]? with
                      | none => simp only [q4, q4'] at e2; exact fin e2 (.inr q4')
                      | some z' => simp only [q4, q4'] at e2; cases e2
              · cases q3 : sq.get L2 with
                | none => simp only [Src.at, q3] at e2; cases e2
                | some zs =>
                  cases q3' : sq'.get L2 with
                  | none => simp only [Src.at, q3, q3'] at e2; cases e2
                  | some zs' =>
                    simp only [Src.at, q3, q3'] at e2
                    obtain ⟨us, hu, ru⟩ := hv _ _ _ zs x2 g2 q3
                    obtain ⟨us', hu', ru'⟩ := hv' _ _ _ zs' x2 g2 q3'
                    have no : ¬ (if i ≤ zs.length ∧ i ≤ zs'.length then some none else none : Option (Option D)) = some (some d2) := fun e3 => by
                      by_cases c : i ≤ zs.length ∧ i ≤ zs'.length
                      · rw [if_pos c] at e3
                        cases e3
                      · rw [if_neg c] at e3
                        cases e3
                    cases q4 : zs[i]? with
                    | none => simp only [q4] at e2; exact (no e2).elim
                    | some z =>
                      cases q4' : zs'[i]? with
                      | none => simp only [q4, q4'] at e2; exact (no e2).elim
                      | some z' =>
                        simp only [q4, q4'] at e2
                        cases e2
                        obtain ⟨u, hz, rz⟩ := ru.get q4
                        obtain ⟨u', hz', rz'⟩ := ru'.get q4'
                        refine ⟨⟨us, us', u, u', hu, hu', hz, hz'⟩, fun y H3 hy => ?_⟩
                        obtain ⟨p, y1, y2, e3, hn, e4, e5, e5'⟩ := hy
                        have e6 := e5 us hu
                        rw [hz] at e6
                        cases e6
                        have e7 := e5' us' hu'
                        rw [hz'] at e7
                        cases e7
                        subst e3 e4
                        exact xt_tup g2 hn ⟨u, [u'], rfl, rz, Rps.one rz'⟩
    | [], _, h1 => exact h1.elim
    | [a], _, h1 => exact h1.elim
    | a :: b :: c :: r, _, h1 => exact h1.elim)
end
end DI
set_option Elab.async false
set_option linter.all false
set_option maxRecDepth 100000
set_option maxHeartbeats 2000000
/-! Targets, statements, comprehensions, any and all. -/
namespace DI
open PySem PySem.Spec PyProof.Rows L2 GxR DW
/-! ### targets -/
/-- nothing but the slots js is written -/
def Only (js : List Nat) (σ σ' : L2.St) : Prop := σ'.length = σ.length ∧ ∀ f : L2.St → L2.St, (∀ j ∈ js, ∀ (x : Option V) (τ : L2.St), f (τ.set j x) = f τ) → f σ' = f σ
theorem Only.refl (js : List Nat) (σ : L2.St) : Only js σ σ := ⟨rfl, fun _ _ => rfl⟩
theorem Only.trans {js : List Nat} {σ σ1 σ2 : L2.St} (a : Only js σ σ1) (b : Only js σ1 σ2) : Only js σ σ2 := ⟨b.1.trans a.1, fun f h => (b.2 f h).trans (a.2 f h)⟩
theorem Only.mono {js ks : List Nat} {σ σ' : L2.St} (a : Only js σ σ') (h : ∀ j ∈ js, j ∈ ks) : Only ks σ σ' := ⟨a.1, fun f hf => a.2 f fun j hj => hf j (h j hj)⟩
theorem Only.set {i : Nat} {σ : L2.St} {x : Option V} : Only [i] σ (σ.set i x) := ⟨by rw [List.length_set], fun f h => h i List.mem_cons_self x σ⟩
def EvG (T : Tb) (g : TG) (js : List Nat) (f : LH → Sl → D → Option Sl) : Prop := ∀ μ L H env σ x d env' Q, Hg T μ L H → SOk μ L.length H env σ → Rp μ L.length H d x → f L env d = some env' → (∀ σ', SOk μ L.length H env' σ' → Only js σ σ' → Q σ' H) → g x σ H Q
def EvGs (T : Tb) (g : TGs) (js : List Nat) (f : LH → Sl → List D → Option Sl) : Prop := ∀ μ L H env σ xs ds env' Q, Hg T μ L H → SOk μ L.length H env σ → Rps μ L.length H ds xs → f L env ds = some env' → (∀ σ', SOk μ L.length H env' σ' → Only js σ σ' → Q σ' H) → g xs σ H Q
section
variable {T : Tb} {K : PySem.W.Frag} {W : WX}
theorem eg_name {i : Nat} : EvG T (gName i) [i] fun _ env d => some (env.set i (some d)) := fun μ L H env σ x d env' Q g s r e k => by
  cases e
  exact k _ (s.set r) Only.set
theorem egs_nil : EvGs T gNil [] fun _ env ds => match ds with
    | [] => some env
    | _ => none := fun μ L H env σ xs ds env' Q g s r e k => by
  cases ds with
  | nil =>
    cases e
    exact ⟨r, k σ s (Only.refl _ _)⟩
  | cons d ds => cases e
theorem egs_cons {t : TG} {u : TGs} {js ks : List Nat} {f : LH → Sl → D → Option Sl} {fs : LH → Sl → List D → Option Sl} (h : EvG T t js f) (hs : EvGs T u ks fs) : EvGs T (gCons t u) (js ++ ks) fun L env ds => match ds with
    | d :: ds => match f L env d with
      | some env1 => fs L env1 ds
      | none => none
    | [] => none := fun μ L H env σ xs ds env' Q g s r e k => by
  cases ds with
  | nil => cases e
  | cons d ds =>
    obtain ⟨v, ws, ex, r1, r2⟩ := r
    cases q : f L env d with
    | none => simp only [q] at e; cases e
    | some env1 =>
      simp only [q] at e
      exact ⟨v, ws, ex, h μ L H env σ v d env1 _ g s r1 q fun σ1 s1 o1 => hs μ L H env1 σ1 ws ds env' _ g s1 r2 e fun σ2 s2 o2 => k σ2 s2 ((o1.mono fun j hj => List.mem_append_left _ hj).trans (o2.mono fun j hj => List.mem_append_right _ hj))⟩
/-- a, b = a tuple or a list -/
def gSeqA (K : PySem.W.Frag) (n : Nat) (t : TGs) : TG := fun v σ H Q => gTup K n t v σ H Q ∨ gUnl K n t v σ H Q
theorem pg_seqA {X : Cx} {pos : Pos} {es : List Expr} {k : Nat} {t : TGs} {n : Nat} (hc : X.calm = true) (h : PGs X es t) (hn : (assignEach es X.env).length = n) (hst : (assignEach es X.env).findIdx? (·.1) = none) : PG X (.Tuple es k pos) (gSeqA X.K n t) := by
  refine ⟨fun pins s σ H v u Q I r hw => ?_⟩
  rcases hw with hw | hw
  · exact (pg_tup hc h hn hst).run pins s σ H v u Q I r hw
  · exact (pg_unl hc h hn hst).run pins s σ H v u Q I r hw
theorem eg_seq {n : Nat} {t : TGs} {js : List Nat} {fs : LH → Sl → List D → Option Sl} (h : EvGs T t js fs) : EvG T (gSeqA K n t) js fun L env d => match seqD L d with
    | some xs => if xs.length = n then fs L env xs else none
    | none => none := fun μ L H env σ x d env' Q g s r e k => by
  cases q : seqD L d with
  | none => simp only [q] at e; cases e
  | some xs =>
    simp only [q] at e
    by_cases c : xs.length = n
    · rw [if_pos c] at e
      obtain ⟨p, vs, ex, hq, rs⟩ := seq_of (K := K) g q r
      have go := h μ L H env σ vs xs env' Q g s rs e k
      rcases hq with hq | hq
      · exact .inr ⟨p, vs, ex, hq, by rw [rs.length]; exact c, go⟩
      · exact .inl ⟨p, vs, ex, hq, by rw [rs.length]; exact c, go⟩
    · rw [if_neg c] at e
      cases e
end
/-! ### statements -/
inductive RS where
  | nx (env : Sl) (L : LH)
  | rt (d : D) (L : LH)
  | bk (env : Sl) (L : LH)
  | ct (env : Sl) (L : LH)
  | exc (x : Ex) (env : Sl) (L : LH)
  | bad
def FinS (T : Tb) (W : WX) (μ : Mu) (k : Nat) (H : Hp) (r : RS) (D : Ends) : Prop := match r with
  | .nx env L => ∀ μ' σ' H', Xt μ k H μ' L.length H' → Hg T μ' L H' → SOk μ' L.length H' env σ' → D.nx σ' H'
  | .rt d L => ∀ μ' H' v, Xt μ k H μ' L.length H' → Hg T μ' L H' → Rp μ' L.length H' d v → D.rt v H'
  | .bk env L => ∀ μ' σ' H', Xt μ k H μ' L.length H' → Hg T μ' L H' → SOk μ' L.length H' env σ' → D.bk σ' H'
  | .ct env L => ∀ μ' σ' H', Xt μ k H μ' L.length H' → Hg T μ' L H' → SOk μ' L.length H' env σ' → D.ct σ' H'
  | .exc x env L => ∀ μ' σ' H' c d, Xt μ k H μ' L.length H' → Hg T μ' L H' → SOk μ' L.length H' env σ' → XRp μ' L.length H' x c d → W c d σ' H'
  | .bad => False
theorem FinS.mono {T : Tb} {W : WX} {μ μ1 : Mu} {k k1 : Nat} {H H1 : Hp} {r : RS} {D : Ends} (x : Xt μ k H μ1 k1 H1) (h : FinS T W μ k H r D) : FinS T W μ1 k1 H1 r D := by
  cases r with
  | nx env L => exact fun μ' σ' H' y g s => h μ' σ' H' (x.trans y) g s
  | rt d L => exact fun μ' H' v y g r => h μ' H' v (x.trans y) g r
  | bk env L => exact fun μ' σ' H' y g s => h μ' σ' H' (x.trans y) g s
  | ct env L => exact fun μ' σ' H' y g s => h μ' σ' H' (x.trans y) g s
  | exc z env L => exact fun μ' σ' H' c d y g s r => h μ' σ' H' c d (x.trans y) g s r
  | bad => exact h
def EvS (T : Tb) (W : WX) (ts : TS) (m : Sl → LH → RS) : Prop := ∀ env μ L σ H D, Hg T μ L H → SOk μ L.length H env σ → FinS T W μ L.length H (m env L) D → ts D σ H
/-- an expression first -/
def eS {α : Type} (r : R α) (env : Sl) (f : α → LH → RS) : RS := match r with
  | .ok a L => f a L
  | .exc x L => .exc x env L
  | .bad => .bad
section
variable {T : Tb} {K : PySem.W.Frag} {W : WX}
theorem fin_eS {α β : Type} {rel : Mu → Nat → Hp → α → β → Prop} {env : Sl} {r : R α} {f : α → LH → RS} {D : Ends} {μ : Mu} {k : Nat} {H : Hp} {σ : L2.St} {Q : β → Hp → Prop} (s : SOk μ k H env σ) (h : FinS T W μ k H (eS r env f) D)
    (go : ∀ μ' L' H' a b, Xt μ k H μ' L'.length H' → Hg T μ' L' H' → rel μ' L'.length H' a b → FinS T W μ' L'.length H' (f a L') D → Q b H') : Fin rel T (fun c d H => W c d σ H) μ k H r Q := by
  cases r with
  | ok a L => exact fun μ' H' b x g q => go μ' L H' a b x g q (FinS.mono x h)
  | exc z L => exact fun μ' H' c d x g q => h μ' σ H' c d x g (s.mono x) q
  | bad => exact h.elim
theorem es_next : EvS T W tNext fun env L => .nx env L := fun env μ L σ H D g s h => h μ σ H Xt.refl g s
theorem es_break : EvS T W tBreak fun env L => .bk env L := fun env μ L σ H D g s h => h μ σ H Xt.refl g s
theorem es_cont : EvS T W tCont fun env L => .ct env L := fun env μ L σ H D g s h => h μ σ H Xt.refl g s
theorem es_seq {t u : TS} {m n : Sl → LH → RS} (h : EvS T W t m) (h' : EvS T W u n) : EvS T W (tSeq t u) fun env L => match m env L with
    | .nx env1 L1 => n env1 L1
    | r => r := fun env μ L σ H D g s q => by
  refine h env μ L σ H { D with nx := u D } g s ?_
  cases e : m env L with
  | nx env1 L1 =>
    simp only [e] at q
    exact fun μ' σ' H' x g1 s1 => h' env1 μ' L1 σ' H' D g1 s1 (q.mono x)
  | rt d L1 => simp only [e] at q; exact q
  | bk _ _ => simp only [e] at q; exact q
  | ct _ _ => simp only [e] at q; exact q
  | exc _ _ _ => simp only [e] at q; exact q
  | bad => simp only [e] at q; exact q.elim
theorem es_asg {te : TE} {g : TG} {js : List Nat} {m : Sl → LH → R D} {f : LH → Sl → D → Option Sl} (he : ∀ env, EvE T W te env (m env)) (hg : EvG T g js f) : EvS T W (tAsg te g) fun env L => eS (m env L) env fun d L => match f L env d with
    | some env1 => .nx env1 L
    | none => .bad := fun env μ L σ H D g s q =>
  he env μ L σ H _ g s (fin_eS s q fun μ1 L1 H1 d v x1 g1 r1 h1 => by
    cases e : f L1 env d with
    | none => simp only [e] at h1; exact h1.elim
    | some env1 =>
      simp only [e] at h1
      exact hg μ1 L1 H1 env σ v d env1 _ g1 (s.mono x1) r1 e fun σ2 s2 _ => h1 μ1 σ2 H1 Xt.refl g1 s2)
theorem es_drop {te : TE} {m : Sl → LH → R D} (he : ∀ env, EvE T W te env (m env)) : EvS T W (tDrop te) fun env L => eS (m env L) env fun _ L => .nx env L := fun env μ L σ H D g s q =>
  he env μ L σ H _ g s (fin_eS s q fun μ1 L1 H1 d v x1 g1 r1 h1 => h1 μ1 σ H1 Xt.refl g1 (s.mono x1))
theorem es_ret {te : TE} {m : Sl → LH → R D} (he : ∀ env, EvE T W te env (m env)) : EvS T W (tRet te) fun env L => eS (m env L) env fun d L => .rt d L := fun env μ L σ H D g s q =>
  he env μ L σ H _ g s (fin_eS s q fun μ1 L1 H1 d v x1 g1 r1 h1 => h1 μ1 H1 v Xt.refl g1 r1)
theorem es_retN : EvS T W tRetN fun _ L => .rt .non L := fun env μ L σ H D g s q => q μ H .non Xt.refl g rfl
theorem es_if {c : TT} {t u : TS} {m : Sl → LH → R Bool} {n n' : Sl → LH → RS} (hc : ∀ env, EvB T W c env (m env)) (h : EvS T W t n) (h' : EvS T W u n') : EvS T W (tIfS c t u) fun env L => eS (m env L) env fun b L => if b = true then n env L else n' env L := fun env μ L σ H D g s q =>
  hc env μ L σ H _ g s (fin_eS s q fun μ1 L1 H1 b b' x1 g1 r1 h1 => by
    have r1 : b' = b := r1
    subst r1
    cases b' with
    | true => exact h env μ1 L1 σ H1 D g1 (s.mono x1) h1
    | false => exact h' env μ1 L1 σ H1 D g1 (s.mono x1) h1)
/-- the turns of a loop from the i-th on, n of them at most -/
def forD (src : Src) (f : LH → Sl → D → Option Sl) (m : Sl → LH → RS) : Nat → Nat → Sl → LH → RS
  | 0, _, _, _ => .bad
  | n + 1, i, env, L => match src.at L i with
    | none => .bad
    | some none => .nx env L
    | some (some d) => match f L env d with
      | none => .bad
      | some env1 => match m env1 L with
        | .nx env2 L2 => forD src f m n (i + 1) env2 L2
        | .ct env2 L2 => forD src f m n (i + 1) env2 L2
        | .bk env2 L2 => .nx env2 L2
        | r => r
/-- at most so many turns -/
abbrev turnsN : Nat := 100001
theorem es_for {wi : TI} {g : TG} {js : List Nat} {tb : TS} {mi : Sl → LH → R Src} {f : LH → Sl → D → Option Sl} {m : Sl → LH → RS} (hi : ∀ env, EvI T W wi env (mi env)) (hg : EvG T g js f) (hb : EvS T W tb m) :
    EvS T W (tFor wi g tb) fun env L => eS (mi env L) env fun src L => forD src f m turnsN 0 env L := fun env μ L σ H D gg s q =>
  hi env μ L σ H _ gg s (fin_eS s q fun μ1 L1 H1 src J x1 g1 fo h1 => by
    refine ⟨fun i n σ H => ∃ env' μ' L', Xt μ1 L1.length H1 μ' L'.length H ∧ Hg T μ' L' H ∧ SOk μ' L'.length H env' σ ∧ FinS T W μ' L'.length H (forD src f m n i env' L') D, ⟨turnsN, env, μ1, L1, Xt.refl, g1, s.mono x1, h1⟩, ?_⟩
    rintro i n σ2 H2 ⟨env2, μ2, L2, x2, g2, s2, h2⟩
    cases n with
    | zero => exact h2.elim
    | succ n =>
      unfold forD at h2
      obtain ⟨f1, f2⟩ := fo μ2 L2 H2 i x2 g2
      cases e : src.at L2 i with
      | none => simp only [e] at h2; exact h2.elim
      | some o =>
        cases o with
        | none =>
          simp only [e] at h2
          exact .inl ⟨f1 e, h2 μ2 σ2 H2 Xt.refl g2 s2⟩
        | some d =>
          simp only [e] at h2
          obtain ⟨go, yl⟩ := f2 d e
          refine .inr ⟨go, fun σ' H' => ∃ env' μ' L', Xt μ1 L1.length H1 μ' L'.length H' ∧ Hg T μ' L' H' ∧ SOk μ' L'.length H' env' σ' ∧ FinS T W μ' L'.length H' (forD src f m n (i + 1) env' L') D, fun σ' H' w => ⟨n, Nat.lt_succ_self n, w⟩, fun x H3 hy => ?_⟩
          obtain ⟨x3, g3, r3⟩ := yl x H3 hy
          cases e2 : f L2 env2 d with
          | none => simp only [e2] at h2; exact h2.elim
          | some env3 =>
            simp only [e2] at h2
            refine hg μ2 L2 H3 env2 σ2 x d env3 _ g3 (s2.mono x3) r3 e2 fun σ4 s4 _ => ?_
            refine hb env3 μ2 L2 σ4 H3 _ g3 s4 ?_
            cases e3 : m env3 L2 with
            | nx env5 L5 =>
              simp only [e3] at h2
              exact fun μ6 σ6 H6 x6 g6 s6 => ⟨env5, μ6, L5, x2.trans (x3.trans x6), g6, s6, h2.mono (x3.trans x6)⟩
            | ct env5 L5 =>
              simp only [e3] at h2
              exact fun μ6 σ6 H6 x6 g6 s6 => ⟨env5, μ6, L5, x2.trans (x3.trans x6), g6, s6, h2.mono (x3.trans x6)⟩
            | bk env5 L5 =>
              simp only [e3] at h2
              exact fun μ6 σ6 H6 x6 g6 s6 => h2 μ6 σ6 H6 (x3.trans x6) g6 s6
            | rt d5 L5 =>
              simp only [e3] at h2
              exact fun μ6 H6 v x6 g6 r6 => h2 μ6 H6 v (x3.trans x6) g6 r6
            | exc z env5 L5 =>
              simp only [e3] at h2
              exact fun μ6 σ6 H6 c dd x6 g6 s6 r6 => h2 μ6 σ6 H6 c dd (x3.trans x6) g6 s6 r6
            | bad => simp only [e3] at h2; exact h2.elim)
/-! ### tests -/
theorem eb_tt {te : TE} {env : Sl} {m : LH → R D} (he : EvE T W te env m) : EvB T W (tB te) env fun L => (m L).bind fun d L => match d with
    | .bl b => .ok b L
    | _ => .bad := fun μ L σ H Q g s h =>
  he μ L σ H _ g s (Fin.bind h fun μ1 L1 H1 d x x1 g1 r1 h1 => by
    cases d with
    | bl b => exact ⟨b, r1, h1 μ1 H1 b Xt.refl g1 rfl⟩
    | _ => exact h1.elim)
theorem ev_andV {ta tb : TE} {env : Sl} {m n : LH → R D} (ha : EvE T W ta env m) (hb : EvE T W tb env n) : EvE T W (tAndV ta tb) env fun L => (m L).bind fun d L => match d with
    | .bl true => n L
    | .bl false => .ok (.bl false) L
    | _ => .bad := fun μ L σ H Q g s h =>
  ha μ L σ H _ g s (Fin.bind h fun μ1 L1 H1 d x x1 g1 r1 h1 => by
    cases d with
    | bl b =>
      cases b with
      | true => exact ⟨true, r1, hb μ1 L1 σ H1 Q g1 (s.mono x1) h1⟩
      | false => exact ⟨false, r1, h1 μ1 H1 _ Xt.refl g1 rfl⟩
    | _ => exact h1.elim)
theorem ev_orV {ta tb : TE} {env : Sl} {m n : LH → R D} (ha : EvE T W ta env m) (hb : EvE T W tb env n) : EvE T W (tOrV ta tb) env fun L => (m L).bind fun d L => match d with
    | .bl true => .ok (.bl true) L
    | .bl false => n L
    | _ => .bad := fun μ L σ H Q g s h =>
  ha μ L σ H _ g s (Fin.bind h fun μ1 L1 H1 d x x1 g1 r1 h1 => by
    cases d with
    | bl b =>
      cases b with
      | true => exact ⟨true, r1, h1 μ1 H1 _ Xt.refl g1 rfl⟩
      | false => exact ⟨false, r1, hb μ1 L1 σ H1 Q g1 (s.mono x1) h1⟩
    | _ => exact h1.elim)
theorem ev_chain {r r' : R2} {ta tb tc : TE} {env : Sl} {m n l : LH → R D} {f f' : D → D → LH → R D} (ha : EvE T W ta env m) (hb : EvE T W tb env n) (hc : EvE T W tc env l) (ho : OpS T r f) (ho' : OpS T r' f') :
    EvE T W (tChain r r' ta tb tc) env fun L => (m L).bind fun d L => (n L).bind fun e L => (f d e L).bind fun z L => match z with
      | .bl true => (l L).bind fun u L => f' e u L
      | .bl false => .ok (.bl false) L
      | _ => .bad := fun μ L σ H Q g s h =>
  ha μ L σ H _ g s (Fin.bind h fun μ1 L1 H1 d x x1 g1 r1 h1 => hb μ1 L1 σ H1 _ g1 (s.mono x1) (Fin.bind h1 fun μ2 L2 H2 e y x2 g2 r2 h2 => ho _ μ2 L2 H2 x y d e _ g2 (r1.mono x2) r2 (Fin.bind h2 fun μ3 L3 H3 z zv x3 g3 r3 h3 => by
    cases z with
    | bl b =>
      refine ⟨b, r3, ?_⟩
      cases b with
      | true => exact hc μ3 L3 σ H3 _ g3 (((s.mono x1).mono x2).mono x3) (Fin.bind h3 fun μ4 L4 H4 u w x4 g4 r4 h4 => ho' _ μ4 L4 H4 y w e u Q g4 ((r2.mono x3).mono x4) r4 h4)
      | false => exact h3 μ3 H3 _ Xt.refl g3 rfl
    | _ => exact h3.elim)))
theorem ev_ifE {c : TT} {ta tb : TE} {env : Sl} {mc : LH → R Bool} {m n : LH → R D} (hc : EvB T W c env mc) (ha : EvE T W ta env m) (hb : EvE T W tb env n) : EvE T W (tIf c ta tb) env fun L => (mc L).bind fun b L => if b = true then m L else n L := fun μ L σ H Q g s h =>
  hc μ L σ H _ g s (Fin.bind h fun μ1 L1 H1 b b' x1 g1 r1 h1 => by
    have r1 : b' = b := r1
    subst r1
    cases b' with
    | true => exact ha μ1 L1 σ H1 Q g1 (s.mono x1) h1
    | false => exact hb μ1 L1 σ H1 Q g1 (s.mono x1) h1)
theorem eb_notT {c : TT} {env : Sl} {mc : LH → R Bool} (hc : EvB T W c env mc) : EvB T W (tNot c) env fun L => (mc L).bind fun b L => .ok (!b) L := fun μ L σ H Q g s h =>
  hc μ L σ H _ g s (Fin.bind h fun μ1 L1 H1 b b' x1 g1 r1 h1 => by
    have r1 : b' = b := r1
    subst r1
    exact h1 μ1 H1 _ Xt.refl g1 rfl)
/-- truth of a value -/
def truD (L : LH) : D → Option Bool
  | .bl b => some b
  | .int i => some (i != 0)
  | .non => some false
  | .str z => if z.length ≤ 100000 then some ((z.length : Int) != 0) else none
  | d => match seqD L d with
    | some xs => some (!xs.isEmpty)
    | none => none
end
end DI
set_option Elab.async false
set_option linter.all false
set_option maxRecDepth 100000
set_option maxHeartbeats 2000000
/-! Truth, comprehensions, any and all on plain data. -/
namespace DI
open PySem PySem.Spec PyProof.Rows L2 GxR DW
section
variable {T : Tb} {K : PySem.W.Frag} {W : WX}
theorem tru_of {μ : Mu} {L : LH} {H : Hp} {d : D} {v : V} {b : Bool} (g : Hg T μ L H) (h : truD L d = some b) (r : Rp μ L.length H d v) : TruV K v H b := by
  cases d with
  | bl c =>
    cases h
    rw [show v = .bl _ from r]
    exact rfl
  | int i =>
    cases h
    rw [show v = .int i from r]
    exact rfl
  | non =>
    cases h
    rw [show v = .non from r]
    exact rfl
  | str z =>
    unfold truD at h
    by_cases c : z.length ≤ 100000
    · simp only [if_pos c] at h
      cases h
      rw [show v = .str z from r]
      exact ⟨sl5 c, rfl⟩
    · simp only [if_neg c] at h
      cases h
  | tup xs =>
    cases h
    obtain ⟨a, vs, e, ha, rs⟩ := r
    rw [e]
    refine .inr (.inl ⟨vs, .inl (.inl ha), ?_⟩)
    have hl := rs.length
    cases xs <;> cases vs <;> simp at hl ⊢
  | ref n =>
    unfold truD at h
    cases q : seqD L (.ref n) with
    | none => simp only [q] at h; cases h
    | some xs =>
      simp only [q] at h
      cases h
      obtain ⟨vs, hs, rs⟩ := lst_at (K := K) g q
      rw [r.2]
      refine .inl ⟨vs, hs, ?_⟩
      have hl := rs.length
      cases xs <;> cases vs <;> simp at hl ⊢
  | _ => cases h
def tTruth (K : PySem.W.Frag) (te : TE) : TT := fun σ H Q => te σ H fun x H' => ∃ k, TruV K x H' k ∧ Q k H'
theorem eb_truth {te : TE} {env : Sl} {m : LH → R D} (he : EvE T W te env m) : EvB T W (tTruth K te) env fun L => (m L).bind fun d L => match truD L d with
    | some b => .ok b L
    | none => .bad := fun μ L σ H Q g s h =>
  he μ L σ H _ g s (Fin.bind h fun μ1 L1 H1 d x x1 g1 r1 h1 => by
    cases e : truD L1 d with
    | none => simp only [e] at h1; exact h1.elim
    | some b =>
      simp only [e] at h1
      exact ⟨b, tru_of g1 e r1, h1 μ1 H1 b Xt.refl g1 rfl⟩)
theorem eb_and {c c' : TT} {env : Sl} {m n : LH → R Bool} (h : EvB T W c env m) (h' : EvB T W c' env n) : EvB T W (tAnd c c') env fun L => (m L).bind fun b L => if b = true then n L else .ok false L := fun μ L σ H Q g s q =>
  h μ L σ H _ g s (Fin.bind q fun μ1 L1 H1 b b' x1 g1 r1 h1 => by
    have r1 : b' = b := r1
    subst r1
    cases b' with
    | true => exact h' μ1 L1 σ H1 Q g1 (s.mono x1) h1
    | false => exact h1 μ1 H1 _ Xt.refl g1 rfl)
theorem eb_or {c c' : TT} {env : Sl} {m n : LH → R Bool} (h : EvB T W c env m) (h' : EvB T W c' env n) : EvB T W (tOr c c') env fun L => (m L).bind fun b L => if b = true then .ok true L else n L := fun μ L σ H Q g s q =>
  h μ L σ H _ g s (Fin.bind q fun μ1 L1 H1 b b' x1 g1 r1 h1 => by
    have r1 : b' = b := r1
    subst r1
    cases b' with
    | true => exact h1 μ1 H1 _ Xt.refl g1 rfl
    | false => exact h' μ1 L1 σ H1 Q g1 (s.mono x1) h1)
theorem eb_yes {env : Sl} : EvB T W tYes env fun L => .ok true L := fun μ L σ H Q g s h => h μ H true Xt.refl g rfl
/-! ### list comprehensions -/
def wipeE (env : Sl) : List Nat → Sl
  | [] => env
  | v :: vs => (wipeE env vs).set v none
theorem sok_none {μ : Mu} {k : Nat} {H : Hp} {env : Sl} {σ : L2.St} {i : Nat} (h : SOk μ k H env σ) : SOk μ k H (env.set i none) (σ.set i none) := ⟨by rw [List.length_set, List.length_set, h.len], fun j d e => by
  by_cases z : i = j
  · subst z
    by_cases l : i < env.length
    · rw [List.getElem?_set_self l] at e
      cases e
    · rw [List.getElem?_eq_none (by rw [List.length_set]; omega)] at e
      cases e
  · rw [List.getElem?_set_ne z] at e
    rw [List.getElem?_set_ne z]
    exact h.at_ j d e⟩
theorem sok_wipe {μ : Mu} {k : Nat} {H : Hp} {env : Sl} {σ : L2.St} (h : SOk μ k H env σ) : ∀ vs : List Nat, SOk μ k H (wipeE env vs) (wipe σ vs)
  | [] => h
  | v :: vs => sok_none (sok_wipe h vs)
theorem set_swap {α : Type} (l : List α) (i j : Nat) (x y : α) : (l.set i x).set j y = if i = j then l.set j y else (l.set j y).set i x := by
  by_cases h : i = j
  · subst h
    rw [if_pos rfl, List.set_set]
  · rw [if_neg h, List.set_comm x y h]
theorem wipe_set {j : Nat} {x : Option V} : ∀ {vs : List Nat} {σ : L2.St}, j ∈ vs → wipe (σ.set j x) vs = wipe σ vs
  | v :: vs, σ, h => by
    unfold wipe
    by_cases hv : j ∈ vs
    · rw [wipe_set hv]
    · have e : j = v := by
        rcases List.mem_cons.mp h with q | q
        · exact q
        · exact absurd q hv
      subst e
      have go : ∀ ws : List Nat, j ∉ ws → wipe (σ.set j x) ws = (wipe σ ws).set j x := fun ws => by
        induction ws with
        | nil => intro _; rfl
        | cons w ws ih =>
          intro hn
          unfold wipe
          rw [ih (fun q => hn (List.mem_cons_of_mem _ q))]
          rw [List.set_comm _ _ (fun q => hn (by rw [q]; exact List.mem_cons_self))]
      rw [go vs hv, List.set_set]
theorem wipe_wipe (σ : L2.St) : ∀ (vs ws : List Nat), (∀ v ∈ vs, v ∈ ws) → wipe (wipe σ vs) ws = wipe σ ws
  | [], ws, _ => rfl
  | v :: vs, ws, h => by
    show wipe ((wipe σ vs).set v none) ws = _
    rw [wipe_set (h v List.mem_cons_self), wipe_wipe σ vs ws fun u hu => h u (List.mem_cons_of_mem _ hu)]
/-- the turns of a comprehension whose list is the cell n0 -/
def lcD (src : Src) (f : LH → Sl → D → Option Sl) (t : Sl → LH → R Bool) (m : Sl → LH → R D) (n0 : Nat) (env : Sl) : Nat → Nat → LH → R D
  | 0, _, _ => .bad
  | n + 1, i, L => match src.at L i with
    | none => .bad
    | some none => .ok (.ref n0) L
    | some (some d) => match f L env d with
      | none => .bad
      | some env1 => (t env1 L).bind fun b L1 => if b = true then (m env1 L1).bind fun e L2 => match mutAt L2 n0 with
          | some acc => if acc.length < 100000 then lcD src f t m n0 env n (i + 1) (L2.set n0 (.lst true (acc ++ [e]))) else .bad
          | none => .bad
        else lcD src f t m n0 env n (i + 1) L1
theorem hg_newL {μ : Mu} {L : LH} {H : Hp} {p : Addr} {ds : List D} {vs : List V} (g : Hg T μ L H) (hp : H p = none) (r : Rps μ L.length H ds vs) :
    Xt μ L.length H (muP μ L.length p) (L ++ [Cell.lst true ds]).length (upd H p (.lst vs)) ∧ Hg T (muP μ L.length p) (L ++ [.lst true ds]) (upd H p (.lst vs)) := by
  have hk : ∀ b o, H b = some o → (upd H p (.lst vs)) b = some o := fun b o e => by
    rw [upd_ne (ne_of_none e hp)]
    exact e
  have x : Xt μ L.length H (muP μ L.length p) (L.length + 1) (upd H p (.lst vs)) := xt_new fun a ws e => hk a _ e
  refine ⟨?_, g.cell hp hk ⟨vs, upd_same, r.mono x⟩⟩
  rw [show (L ++ [Cell.lst true ds]).length = L.length + 1 by simp]
  exact x
/-- no exception may leave the block: a result that is one is no answer -/
def noX {α : Type} (r : R α) : R α := match r with
  | .exc _ _ => .bad
  | r => r
theorem fin_noX {α β : Type} {rel : Mu → Nat → Hp → α → β → Prop} {W1 W2 : WV} {μ : Mu} {k : Nat} {H : Hp} {r : R α} {Q : β → Hp → Prop} (h : Fin rel T W1 μ k H (noX r) Q) : Fin rel T W2 μ k H r Q := by
  cases r with
  | ok a L => exact h
  | exc z L => exact h.elim
  | bad => exact h
/-- without exceptions -/
def EvEq (T : Tb) (te : TE) (env : Sl) (m : LH → R D) : Prop := ∀ W : WX, EvE T W te env m
theorem ev_lc {W' : WX} {wi : TI} {g : TG} {tt : TT} {te : TE} {vs js : List Nat} {env : Sl} {mi : LH → R Src} {f : LH → Sl → D → Option Sl} {t : Sl → LH → R Bool} {m : Sl → LH → R D} (hi : EvI T W wi env mi) (hg : EvG T g js f) (hj : ∀ j ∈ js, j ∈ vs)
    (ht : ∀ env, EvB T W' tt env (t env)) (he : ∀ env, EvE T W' te env (m env)) :
    EvE T W (tLc wi g tt te vs) env fun L => (mi L).bind fun src L1 => lcD src f (fun e L => noX (t e L)) (fun e L => noX (m e L)) L1.length (wipeE env vs) turnsN 0 (L1 ++ [.lst true []]) := fun μ L σ H Q gg s q =>
  hi μ L σ H _ gg s (Fin.bind q fun μ1 L1 H1 src J x1 g1 fo h1 Dl hD => by
    obtain ⟨y1, g1'⟩ := hg_newL (ds := []) (vs := []) g1 hD rfl
    have hn0 : ∀ {μ' : Mu} {k' : Nat} {H' : Hp}, Xt (muP μ1 L1.length Dl) (L1 ++ [Cell.lst true []]).length (upd H1 Dl (.lst [])) μ' k' H' → μ' L1.length = Dl ∧ L1.length < k' := fun {μ' k' H'} x => by
      have hl : L1.length < (L1 ++ [Cell.lst true []]).length := by simp
      exact ⟨(x.mu _ hl).trans muP_new, Nat.lt_of_lt_of_le hl x.le⟩
    refine ⟨fun i n H => ∃ μ' L', Xt (muP μ1 L1.length Dl) (L1 ++ [Cell.lst true []]).length (upd H1 Dl (.lst [])) μ' L'.length H ∧ Hg T μ' L' H ∧
      Fin Rp T (fun _ _ _ => False) μ' L'.length H (lcD src f (fun e L => noX (t e L)) (fun e L => noX (m e L)) L1.length (wipeE env vs) n i L') Q, ⟨turnsN, muP μ1 L1.length Dl, _, Xt.refl, g1', ?_⟩, ?_⟩
    · have ex : ∀ (n i : Nat) (L : LH) {W1 W2 : WV} {μ : Mu} {k : Nat} {H : Hp}, Fin Rp T W1 μ k H (lcD src f (fun e L => noX (t e L)) (fun e L => noX (m e L)) L1.length (wipeE env vs) n i L) Q → Fin Rp T W2 μ k H (lcD src f (fun e L => noX (t e L)) (fun e L => noX (m e L)) L1.length (wipeE env vs) n i L) Q := fun n => by
        induction n with
        | zero => intro i L W1 W2 μ k H h; exact h.elim
        | succ n ih =>
          intro i L W1 W2 μ k H h
          unfold lcD at h ⊢
          cases e : src.at L i with
          | none => simp only [e] at h; exact h.elim
          | some o =>
            cases o with
            | none => simp only [e] at h ⊢; exact h
            | some d =>
              simp only [e] at h ⊢
              cases e2 : f L (wipeE env vs) d with
              | none => simp only [e2] at h; exact h.elim
              | some env1 =>
                simp only [e2] at h ⊢
                cases e3 : t env1 L with
                | bad => simp only [e3, noX, R.bind] at h; exact h.elim
                | exc z L' => simp only [e3, noX, R.bind] at h; exact h.elim
                | ok b L2 =>
                  simp only [e3, noX, R.bind] at h ⊢
                  cases b with
                  | false => simp only [Bool.false_eq_true, if_false] at h ⊢; exact ih _ _ h
                  | true =>
                    simp only [if_true] at h ⊢
                    cases e4 : m env1 L2 with
                    | bad => simp only [e4] at h; exact h.elim
                    | exc z L' => simp only [e4] at h; exact h.elim
                    | ok y L3 =>
                      simp only [e4] at h ⊢
                      cases e5 : mutAt L3 L1.length with
                      | none => simp only [e5] at h; exact h.elim
                      | some acc =>
                        simp only [e5] at h ⊢
                        by_cases c : acc.length < 100000
                        · rw [if_pos c] at h ⊢
                          exact ih _ _ h
                        · rw [if_neg c] at h
                          exact h.elim
      exact ex _ _ _ (h1.mono y1)
    · rintro i n H2 ⟨μ2, L2, x2, g2, h2⟩
      cases n with
      | zero => exact h2.elim
      | succ n =>
        unfold lcD at h2
        obtain ⟨f1, f2⟩ := fo μ2 L2 H2 i (y1.trans x2) g2
        cases e : src.at L2 i with
        | none => simp only [e] at h2; exact h2.elim
        | some o =>
          cases o with
          | none =>
            simp only [e] at h2
            refine .inl ⟨f1 e, h2 μ2 H2 _ Xt.refl g2 ⟨(hn0 x2).2, ?_⟩⟩
            rw [(hn0 x2).1]
          | some d =>
            simp only [e] at h2
            obtain ⟨go, yl⟩ := f2 d e
            refine .inr ⟨go, fun H' => ∃ μ' L', Xt (muP μ1 L1.length Dl) (L1 ++ [Cell.lst true []]).length (upd H1 Dl (.lst [])) μ' L'.length H' ∧ Hg T μ' L' H' ∧
              Fin Rp T (fun _ _ _ => False) μ' L'.length H' (lcD src f (fun e L => noX (t e L)) (fun e L => noX (m e L)) L1.length (wipeE env vs) n (i + 1) L') Q, fun H' w => ⟨n, Nat.lt_succ_self n, w⟩, fun x H3 hy => ?_⟩
            obtain ⟨x3, g3, r3⟩ := yl x H3 hy
            cases e2 : f L2 (wipeE env vs) d with
            | none => simp only [e2] at h2; exact h2.elim
            | some env3 =>
              simp only [e2] at h2
              have sw : SOk μ2 L2.length H3 (wipeE env vs) (wipe σ vs) := sok_wipe ((((s.mono x1).mono y1).mono x2).mono x3) vs
              refine hg μ2 L2 H3 (wipeE env vs) (wipe σ vs) x d env3 _ g3 sw r3 e2 fun σ4 s4 o4 => ⟨?_, ?_⟩
              · have := o4.2 (fun τ => wipe τ vs) fun j hjs x τ => wipe_set (hj j hjs)
                rw [wipe_wipe σ vs vs fun _ h => h] at this
                exact this
              · have h3 : Fin Rp T (fun _ _ _ => False) μ2 L2.length H3 _ Q := h2.mono x3
                refine ht env3 μ2 L2 σ4 H3 _ g3 s4 (fin_noX (W1 := fun _ _ _ => False) (Fin.bind h3 fun μ5 L5 H5 b b' x5 g5 r5 h5 => ?_))
                have r5 : b' = b := r5
                subst r5
                cases b' with
                | false =>
                  simp only [Bool.false_eq_true, if_false] at h5 ⊢
                  exact ⟨μ5, L5, x2.trans (x3.trans x5), g5, h5⟩
                | true =>
                  simp only [if_true] at h5 ⊢
                  refine he env3 μ5 L5 σ4 H5 _ g5 (s4.mono x5) (fin_noX (W1 := fun _ _ _ => False) (Fin.bind h5 fun μ6 L6 H6 y v x6 g6 r6 h6 => ?_))
                  cases e5 : mutAt L6 L1.length with
                  | none => simp only [e5] at h6; exact h6.elim
                  | some acc =>
                    simp only [e5] at h6
                    by_cases c : acc.length < 100000
                    · rw [if_pos c] at h6
                      obtain ⟨us, hu, ru⟩ := mut_at g6 e5
                      have xx := x2.trans (x3.trans (x5.trans x6))
                      have em := (hn0 xx).1
                      have x0 : Xt μ6 L6.length H6 μ6 L6.length (upd H6 (μ6 L1.length) (.lst (us ++ [v]))) := ⟨Nat.le_refl _, fun _ _ => rfl, fun p ws z => by
                        rw [upd_ne (fun w => by rw [w, hu] at z; cases z)]
                        exact z⟩
                      obtain ⟨g7, x7⟩ := g6.write (c := .lst true (acc ++ [y])) (o := .lst (us ++ [v])) (mut_get e5) ⟨us ++ [v], upd_same, (ru.append (Rps.one r6)).mono x0⟩
                      rw [em] at hu g7 x7
                      refine ⟨us, hu, by rw [ru.length]; exact sl6 c, μ6, _, xx.trans x7, g7, h6.mono x7⟩
                    · rw [if_neg c] at h6
                      exact h6.elim)
end
end DI
set_option Elab.async false
set_option linter.all false
set_option maxRecDepth 100000
set_option maxHeartbeats 2000000
/-! any and all of a generator expression on plain data. -/
namespace DI
open PySem PySem.Spec PyProof.Rows L2 GxR DW GxA
def capE (capt : List (Option Nat)) (env : Sl) : Sl := capt.map fun c => match c with
  | none => none
  | some i => (env[i]?).getD none
def agD (src : Src) (f : LH → Sl → D → Option Sl) (m : Sl → LH → R D) (b0 : Bool) (env : Sl) : Nat → Nat → LH → R D
  | 0, _, _ => .bad
  | n + 1, i, L => match src.at L i with
    | none => .bad
    | some none => .ok (.bl b0) L
    | some (some d) => match f L env d with
      | none => .bad
      | some env1 => (m env1 L).bind fun y L1 => match y with
        | .bl b => if b = b0 then agD src f m b0 env n (i + 1) L1 else .ok (.bl (!b0)) L1
        | _ => .bad
section
variable {T : Tb} {K : PySem.W.Frag} {W : WX}
theorem sok_cap {μ : Mu} {k : Nat} {H : Hp} {env : Sl} {σ : L2.St} (h : SOk μ k H env σ) (capt : List (Option Nat)) : SOk μ k H (capE capt env) (capS capt σ) := ⟨by unfold capE capS; rw [List.length_map, List.length_map], fun i d e => by
  unfold capE at e
  unfold capS
  rw [List.getElem?_map] at e ⊢
  cases q : capt[i]? with
  | none => rw [q] at e; cases e
  | some c =>
    rw [q] at e
    cases c with
    | none => cases e
    | some j =>
      have e : some ((env[j]?).getD none) = some (some d) := e
      cases q2 : env[j]? with
      | none => rw [q2] at e; cases e
      | some o =>
        rw [q2] at e
        have e : some o = some (some d) := e
        cases e
        obtain ⟨v, a, b⟩ := h.at_ j d q2
        exact ⟨v, by show some ((σ[j]?).getD none) = _; rw [a]; rfl, b⟩⟩
theorem mask_len : ∀ {capt : List (Option Nat)} {σ : L2.St}, maskS capt σ = σ → capt.length = σ.length ∨ True := fun _ => .inr trivial
theorem mask_set {j : Nat} {x : Option V} : ∀ {capt : List (Option Nat)} {σ : L2.St}, capt[j]? = some none → maskS capt (σ.set j x) = maskS capt σ := by
  induction j with
  | zero =>
    intro capt σ h
    cases capt with
    | nil => cases h
    | cons c cs =>
      have h : some c = some none := h
      cases h
      cases σ with
      | nil => rfl
      | cons v vs => rfl
  | succ j ih =>
    intro capt σ h
    cases capt with
    | nil => cases h
    | cons c cs =>
      have h : cs[j]? = some none := by simpa using h
      cases σ with
      | nil => rfl
      | cons v vs =>
        cases c with
        | none => show none :: maskS cs (vs.set j x) = none :: maskS cs vs; rw [ih h]
        | some i => show v :: maskS cs (vs.set j x) = v :: maskS cs vs; rw [ih h]
theorem mask_cap (σ : L2.St) : ∀ capt : List (Option Nat), maskS capt (capS capt σ) = capS capt σ
  | [] => rfl
  | none :: cs => by
    show none :: maskS cs (capS cs σ) = none :: capS cs σ
    rw [mask_cap σ cs]
  | some i :: cs => by
    show (σ[i]?).getD none :: maskS cs (capS cs σ) = (σ[i]?).getD none :: capS cs σ
    rw [mask_cap σ cs]
theorem hg_tab {μ : Mu} {L : LH} {H H' : Hp} {P : Addr} (g : Hg T μ L H) (hP : P ∈ T) (t : Tabbed P H H') : Hg T μ L H' ∧ Xt μ L.length H μ L.length H' := by
  obtain ⟨ps0, e0, _⟩ := g.tab P hP
  have x : Xt μ L.length H μ L.length H' := ⟨Nat.le_refl _, fun _ _ => rfl, fun a vs e => by
    rw [t.2 a (fun z => by rw [z, e0] at e; cases e)]
    exact e⟩
  refine ⟨⟨g.inj, fun i c e => ?_, fun Q hQ => ?_⟩, x⟩
  · obtain ⟨o, ho, h1, _⟩ := (g.cel i c e).there
    exact (g.cel i c e).mono x (t.2 _ fun z => by rw [z, e0] at ho; cases ho; exact h1 _ rfl)
  · by_cases z : Q = P
    · rw [z]
      exact t.1
    · obtain ⟨ps, e, tr⟩ := g.tab Q hQ
      exact ⟨ps, by rw [t.2 Q z]; exact e, tr⟩
theorem ev_ag {W' : WX} {P : Addr} {b0 : Bool} {wi : TI} {g : TG} {te : TE} {capt : List (Option Nat)} {js : List Nat} {env : Sl} {mi : LH → R Src} {f : LH → Sl → D → Option Sl} {m : Sl → LH → R D} (hP : P ∈ T) (hi : EvI T W wi env mi) (hg : EvG T g js f) (hj : ∀ j ∈ js, capt[j]? = some none)
    (he : ∀ env, EvE T W' te env (m env)) : EvE T W (tAG P b0 wi g te capt) env fun L => (mi L).bind fun src L1 => agD src f (fun e L => noX (m e L)) b0 (capE capt env) turnsN 0 L1 := fun μ L σ H Q gg s q =>
  hi μ L σ H _ gg s (Fin.bind q fun μ1 L1 H1 src J x1 g1 fo h1 => ⟨g1.tab P hP, fun H2 tb => by
    obtain ⟨g2, x2⟩ := hg_tab g1 hP tb
    have ex : ∀ (n i : Nat) (L : LH) {W1 W2 : WV} {μ : Mu} {k : Nat} {H : Hp}, Fin Rp T W1 μ k H (agD src f (fun e L => noX (m e L)) b0 (capE capt env) n i L) Q → Fin Rp T W2 μ k H (agD src f (fun e L => noX (m e L)) b0 (capE capt env) n i L) Q := fun n => by
      induction n with
      | zero => intro i L W1 W2 μ k H h; exact h.elim
      | succ n ih =>
        intro i L W1 W2 μ k H h
        unfold agD at h ⊢
        cases e : src.at L i with
        | none => simp only [e] at h; exact h.elim
        | some o =>
          cases o with
          | none => simp only [e] at h ⊢; exact h
          | some d =>
            simp only [e] at h ⊢
            cases e2 : f L (capE capt env) d with
            | none => simp only [e2] at h; exact h.elim
            | some env1 =>
              simp only [e2] at h ⊢
              cases e3 : m env1 L with
              | bad => simp only [e3, noX, R.bind] at h; exact h.elim
              | exc z L' => simp only [e3, noX, R.bind] at h; exact h.elim
              | ok y L2 =>
                simp only [e3, noX, R.bind] at h ⊢
                cases y with
                | bl b =>
                  simp only at h ⊢
                  by_cases c : b = b0
                  · rw [if_pos c] at h ⊢
                    exact ih _ _ h
                  · rw [if_neg c] at h ⊢
                    exact h
                | _ => exact h.elim
    refine ⟨fun i n H => ∃ μ' L', Xt μ1 L1.length H1 μ' L'.length H ∧ Hg T μ' L' H ∧ Fin Rp T (fun _ _ _ => False) μ' L'.length H (agD src f (fun e L => noX (m e L)) b0 (capE capt env) n i L') Q, ⟨turnsN, μ1, L1, x2, g2, ex _ _ _ (h1.mono x2)⟩, ?_⟩
    rintro i n H3 ⟨μ3, L3, x3, g3, h3⟩
    cases n with
    | zero => exact h3.elim
    | succ n =>
      unfold agD at h3
      obtain ⟨f1, f2⟩ := fo μ3 L3 H3 i x3 g3
      cases e : src.at L3 i with
      | none => simp only [e] at h3; exact h3.elim
      | some o =>
        cases o with
        | none =>
          simp only [e] at h3
          exact .inl ⟨f1 e, h3 μ3 H3 _ Xt.refl g3 rfl⟩
        | some d =>
          simp only [e] at h3
          obtain ⟨go, yl⟩ := f2 d e
          refine .inr ⟨go, fun H' => ∃ μ' L', Xt μ1 L1.length H1 μ' L'.length H' ∧ Hg T μ' L' H' ∧ Fin Rp T (fun _ _ _ => False) μ' L'.length H' (agD src f (fun e L => noX (m e L)) b0 (capE capt env) n (i + 1) L') Q, fun H' w => ⟨n, Nat.lt_succ_self n, w⟩, fun x H4 hy => ?_⟩
          obtain ⟨x4, g4, r4⟩ := yl x H4 hy
          cases e2 : f L3 (capE capt env) d with
          | none => simp only [e2] at h3; exact h3.elim
          | some env1 =>
            simp only [e2] at h3
            have sc : SOk μ3 L3.length H4 (capE capt env) (capS capt σ) := sok_cap (((s.mono x1).mono x3).mono x4) capt
            refine hg μ3 L3 H4 (capE capt env) (capS capt σ) x d env1 _ g4 sc r4 e2 fun σ5 s5 o5 => ⟨?_, o5.1, ?_⟩
            · have := o5.2 (fun τ => maskS capt τ) fun j hjs x τ => mask_set (hj j hjs)
              rw [mask_cap] at this
              exact this
            · refine he env1 μ3 L3 σ5 H4 _ g4 s5 (fin_noX (W1 := fun _ _ _ => False) (Fin.bind (h3.mono x4) fun μ6 L6 H6 y v x6 g6 r6 h6 => ?_))
              cases y with
              | bl b =>
                refine ⟨b, r6, ?_⟩
                by_cases c : b = b0
                · simp only [if_pos c] at h6 ⊢
                  exact ⟨μ6, L6, x3.trans (x4.trans x6), g6, h6⟩
                · simp only [if_neg c] at h6 ⊢
                  exact h6 μ6 H6 _ Xt.refl g6 rfl
              | _ => exact h6.elim⟩)
end
end DI
set_option Elab.async false
set_option linter.all false
set_option maxRecDepth 100000
set_option maxHeartbeats 2000000
/-! Calls of own defs, methods and classes; attributes. -/
namespace DI
open PySem PySem.Spec PyProof.Rows L2 GxR DW GxA
/-- what a def means -/
abbrev Fn := List D → LH → R D
/-- a def's promise on plain data -/
def spD (T : Tb) (np : Nat) (F : Fn) : Sp := fun vs H Q E => vs.length = np ∧ ∃ μ L ds, Hg T μ L H ∧ Rps μ L.length H ds vs ∧ Fin Rp T E μ L.length H (F ds L) Q
/-- the def at f means F -/
structure FOk (P : Program) (w : World) (K : PySem.W.Frag) (mg : Str → Option Value) (base : Heap) (T : Tb) (k : Nat) (f : Addr) (np : Nat) (F : Fn) : Prop where
  fn : ∃ fd ps, ps.length = np ∧ FnOk P w K mg base (CX P w) k f fd ps (spD T np F) ∧ Binds K fd ps []
theorem FOk.mono {P : Program} {w : World} {K : PySem.W.Frag} {mg : Str → Option Value} {base : Heap} {T : Tb} {j k : Nat} {f : Addr} {np : Nat} {F : Fn} (h : FOk P w K mg base T j f np F) (hj : j ≤ k) : FOk P w K mg base T k f np F := by
  obtain ⟨fd, ps, a, b, c⟩ := h
  exact ⟨fd, ps, a, b.mono hj, c⟩
abbrev FX (X : Cx) (T : Tb) (k : Nat) (f : Addr) (np : Nat) (F : Fn) : Prop := FOk X.prog X.w X.K X.mg X.base T k f np F
section
variable {X : Cx} {T : Tb} {W : WX} {k np : Nat} {f C : Addr} {F : Fn} {x m : Str} {p pos apos : Pos} {e o : Expr} {es : List Expr} {ta : TE} {t : TA} {env : Sl} {ma : LH → R D} {mt : LH → R (List D)}
theorem run_FX {pins : List (Addr × Obj)} {σ : L2.St} {H : Hp} {s : Shared} {Q : VK} {us : List Value} {vs : List V} (h : FX X T k f np F) (hr : Room k X.A) (tk : Takes X W) (I : Inv X pins σ H s) (r : Vals vs us) (q : spD T np F vs H Q (fun c d H => W c d σ H)) :
    wpAny (model X.prog X.w) X.A (call (.ref f) us) (EP X pins σ Q) X.xe s := by
  obtain ⟨fd, ps, _, b, c⟩ := h.fn
  exact run_fnS (E := fun σ c d H => W c d σ H) b hr c (passAt tk σ) I r q
/-- f(..) -/
def tFn (T : Tb) (W : WX) (np : Nat) (F : Fn) (t : TA) : TE := fun σ H Q => t σ H fun vs H1 => spD T np F vs H1 Q fun c d H => W c d σ H
theorem pe_fn (h : FX X T k f np F) (hr : Room k X.A) (tk : Takes X W) (hg : Gl X x) (hm : X.mg x = some (.ref f)) (hk : PySem.W.keepIn X.K (.ref f) = true) (ha : PA X (e :: es) t)
    (hdb : (x == ("__debug__" : Str)) = false) (he : starEach (e :: es) X.env = (false, eval e X.env) :: starEach es X.env) (hpl : (backTo pos (starEach es X.env)).any (·.1) = false) :
    PE X (.Call (.Name x p) (e :: es) [] pos) (tFn T W np F t) := by
  refine ⟨fun pins s σ H Q I q => ?_⟩
  refine wpAny_Call_Name_kw (ld_glob I hg hm ?_ hdb)
  refine PySem.W.callWith_K (h₀ := X.base) I.ok.mod.kin hk (thn (ha.run pos pins s σ H _ I q) fun us s1 ⟨vs, H1, I1, r, q⟩ => ⟨I1.kIn, ?_⟩) he hpl
  exact run_FX h hr tk I1 r q
theorem ev_fn {np : Nat} {F : Fn} (ha : EvA T W t env mt) : EvE T W (tFn T W np F t) env fun L => (mt L).bind fun ds L => if ds.length = np then F ds L else .bad := fun μ L σ H Q g s h =>
  ha μ L σ H _ g s (Fin.bind h fun μ1 L1 H1 ds xs x1 g1 r1 h1 => by
    by_cases c : ds.length = np
    · rw [if_pos c] at h1
      exact ⟨r1.length.trans c, μ1, L1, ds, g1, r1, h1⟩
    · rw [if_neg c] at h1
      exact h1.elim)
/-! ### methods of several classes -/
abbrev MT := Addr → Option (Nat × Fn)
def tMe (T : Tb) (W : WX) (M : MT) (m : Str) (ta : TE) (t : TA) : TE := fun σ H Q => ta σ H fun x H1 => ∃ a C dx fs np F, x = .ref a ∧ H1 a = some (.ins C dx fs) ∧ fs.lookup m = none ∧ M C = some (np, F) ∧ t σ H1 fun vs H2 => spD T np F (x :: vs) H2 Q fun c d H => W c d σ H
/-- the classes of M have the method m -/
def MOk (X : Cx) (T : Tb) (k : Nat) (m : Str) (M : MT) : Prop := ∀ C np F, M C = some (np, F) → ∃ f, Cls X.K C ∧ Meth X.K C m f ∧ FX X T k f np F
theorem pe_me {M : MT} {pl : Sem Bool} (ho : PE X o ta) (hM : MOk X T k m M) (hr : Room k X.A) (tk : Takes X W) (ha : PA X (e :: es) t)
    (hst : starEach (e :: es) X.env = (false, eval e X.env) :: starEach es X.env) (hpl : (backTo pos (starEach es X.env)).any (·.1) = false)
    (ht : eval (.Call (.Attribute o m apos) (e :: es) [] pos) X.env = (do
      let ov ← eval o X.env
      standAt apos.atName
      let (f, first) ← holding [ov] (getMethod ov m pl)
      callWith pos f first (backTo pos (starEach (e :: es) X.env)) (backToKw pos (keywordEach [] X.env)))) :
    PE X (.Call (.Attribute o m apos) (e :: es) [] pos) (tMe T W M m ta t) := by
  refine ⟨fun pins s σ H Q I h => ?_⟩
  refine PySem.W.methodCall_KW (pl := pl) (thn (ho.run pins s σ H _ I h) fun u s1 ⟨x, H1, I1, rx, a, C, dx, fs, np, F, ex, ea, l, eM, q⟩ => ?_) ht
  subst ex
  obtain rfl : u = Value.ref a := rx
  obtain ⟨f, c, hm, hF⟩ := hM C np F eM
  refine getmeth_ok I1 ea c hm l ?_
  refine PySem.W.callWith_K (first := [.ref a]) (h₀ := X.base) I.ok.mod.kin hm.kp (thn (ha.run pos pins s1 σ H1 _ I1 q) fun us s2 ⟨vs, H2, I2, r, q2⟩ => ⟨I2.kIn, ?_⟩) hst hpl
  exact run_FX (us := .ref a :: us) (vs := .ref a :: vs) hF hr tk I2 (.cons rfl r) q2
theorem pe_me0 {M : MT} {pl : Sem Bool} (ho : PE X o ta) (hM : MOk X T k m M) (hr : Room k X.A) (tk : Takes X W)
    (ht : eval (.Call (.Attribute o m apos) [] [] pos) X.env = (do
      let ov ← eval o X.env
      standAt apos.atName
      let (f, first) ← holding [ov] (getMethod ov m pl)
      callWith pos f first (backTo pos (starEach [] X.env)) (backToKw pos (keywordEach [] X.env)))) :
    PE X (.Call (.Attribute o m apos) [] [] pos) (tMe T W M m ta tNil) := by
  refine ⟨fun pins s σ H Q I h => ?_⟩
  refine PySem.W.methodCall_KW (pl := pl) (thn (ho.run pins s σ H _ I h) fun u s1 ⟨x, H1, I1, rx, a, C, dx, fs, np, F, ex, ea, l, eM, q⟩ => ?_) ht
  subst ex
  obtain rfl : u = Value.ref a := rx
  obtain ⟨f, c, hm, hF⟩ := hM C np F eM
  refine getmeth_ok I1 ea c hm l ?_
  exact PySem.W.callWith_K0 (first := [.ref a]) I1.kIn hm.kp (run_FX (us := [.ref a]) (vs := [.ref a]) hF hr tk I1 (.cons rfl .nil) q)
theorem ev_me {M : MT} (ha : EvE T W ta env ma) (ht : EvA T W t env mt) : EvE T W (tMe T W M m ta t) env fun L => (ma L).bind fun d L => match d with
    | .ref n => match insAt L n with
      | some (C, fs) => match fs.lookup m, M C with
        | none, some (np, F) => (mt L).bind fun ds L => if ds.length + 1 = np then F (.ref n :: ds) L else .bad
        | _, _ => .bad
      | none => .bad
    | _ => .bad := fun μ L σ H Q g s h =>
  ha μ L σ H _ g s (Fin.bind h fun μ1 L1 H1 d x x1 g1 r1 h1 => by
    cases d with
    | ref n =>
      simp only at h1
      cases e1 : insAt L1 n with
      | none => simp only [e1] at h1; exact h1.elim
      | some z =>
        obtain ⟨C, fs⟩ := z
        simp only [e1] at h1
        obtain ⟨dx, fvs, hi, rf⟩ := ins_at g1 e1
        cases e2 : fs.lookup m with
        | some _ => simp only [e2] at h1; exact h1.elim
        | none =>
          cases e3 : M C with
          | none => simp only [e2, e3] at h1; exact h1.elim
          | some y =>
            obtain ⟨np, F⟩ := y
            simp only [e2, e3] at h1
            refine ⟨μ1 n, C, dx, fvs, np, F, r1.2, hi, (rf.look (f := m)).2 e2, e3, ht μ1 L1 σ H1 _ g1 (s.mono x1) (Fin.bind h1 fun μ2 L2 H2 ds xs x2 g2 r2 h2 => ?_)⟩
            by_cases c : ds.length + 1 = np
            · rw [if_pos c] at h2
              exact ⟨by rw [List.length_cons, r2.length]; exact c, μ2, L2, .ref n :: ds, g2, ⟨x, xs, rfl, Rp.mono x2 r1, r2⟩, h2⟩
            · rw [if_neg c] at h2
              exact h2.elim
    | _ => exact h1.elim)
/-! ### making an instance -/
def tMk (T : Tb) (W : WX) (C : Addr) (np : Nat) (F : Fn) (t : TA) : TE := fun σ H Q => t σ H fun vs H1 => ∀ x dx, H1 x = none → H1 dx = none → dx ≠ x → spD T np F (.ref x :: vs) (upd (upd H1 dx (.own x)) x (.ins C dx [])) (fun v H2 => v = .non ∧ Q (.ref x) H2) fun c d H => W c d σ H
theorem run_mk {pins : List (Addr × Obj)} {σ : L2.St} {H : Hp} {s : Shared} {Q : VK} {us : List Value} {vs : List V} (M : Mk X.K C f) (h : FX X T k f np F) (hr : Room (k + 1) X.A) (tk : Takes X W) (I : Inv X pins σ H s) (r : Vals vs us)
    (q : ∀ x dx, H x = none → H dx = none → dx ≠ x → spD T np F (.ref x :: vs) (upd (upd H dx (.own x)) x (.ins C dx [])) (fun v H2 => v = .non ∧ Q (.ref x) H2) fun c d H => W c d σ H) :
    wpAny (model X.prog X.w) X.A (call (.ref C) us) (EP X pins σ Q) X.xe s := by
  obtain ⟨fd, ps, _, FF, hb⟩ := h.fn
  have hq := q (s.heap.objs.size + 1) s.heap.objs.size (I.hok.fresh (Nat.le_succ _)) (I.hok.fresh (Nat.le_refl _)) (Nat.ne_of_lt (Nat.lt_succ_self _))
  have I2 := Inv.made (C := C) I
  have r2 : Vals (V.ref (s.heap.objs.size + 1) :: vs) (Value.ref (s.heap.objs.size + 1) :: us) := .cons rfl r
  have hl : (Value.ref (s.heap.objs.size + 1) :: us).length = ps.length := by
    have e := r2.length
    rw [FF.len _ _ _ _ hq] at e
    exact e.symm
  have b0 := hb _ (Value.ref (s.heap.objs.size + 1) :: us) I2.kIn (by rw [List.append_nil]; exact hl)
  rw [List.append_nil] at b0
  refine wpAny_call (make_map (f := f) I.kIn M.makes M.init (beq_iff_eq.mp M.fn) (codeAny_mono (FF.run _ X.stack _ _ ⟨Value.ref (s.heap.objs.size + 1) :: us, []⟩ (Value.ref (s.heap.objs.size + 1) :: us) _ _ _ (hr.make C us []) (I2.env0.make C us []) b0 r2 hq) fun r s' hq' => ?_))
  cases r with
  | error e => exact passAt tk σ pins _ _ e s' I2 hq'
  | ok fl =>
    cases fl with
    | ret u =>
      obtain ⟨v, H', I3, rv, ev, q3⟩ := I2.after hq'
      subst ev
      exact ⟨rv, ⟨V.ref (s.heap.objs.size + 1), H', I3, rfl, q3⟩⟩
    | next => exact False.elim hq'
    | brk => exact False.elim hq'
    | cont => exact False.elim hq'
theorem pe_mk (M : Mk X.K C f) (h : FX X T k f np F) (hr : Room (k + 1) X.A) (tk : Takes X W) (hg : Gl X x) (hm : X.mg x = some (.ref C)) (ha : PA X (e :: es) t) (hdb : (x == ("__debug__" : Str)) = false)
    (he : starEach (e :: es) X.env = (false, eval e X.env) :: starEach es X.env) (hpl : (backTo pos (starEach es X.env)).any (·.1) = false) : PE X (.Call (.Name x p) (e :: es) [] pos) (tMk T W C np F t) := by
  refine ⟨fun pins s σ H Q I q => ?_⟩
  refine wpAny_Call_Name_kw (ld_glob I hg hm ?_ hdb)
  refine PySem.W.callWith_K (h₀ := X.base) I.ok.mod.kin M.kp (thn (ha.run pos pins s σ H _ I q) fun us s1 ⟨vs, H1, I1, r, q⟩ => ⟨I1.kIn, ?_⟩) he hpl
  exact run_mk M h hr tk I1 r q
/-- a further instance at x, its dict at dx -/
theorem hg_ins {μ : Mu} {L : LH} {H : Hp} {a dx : Addr} (g : Hg T μ L H) (ha : H a = none) (hd : H dx = none) (hne : dx ≠ a) :
    Xt μ L.length H (muP μ L.length a) (L ++ [Cell.ins C []]).length (upd (upd H dx (.own a)) a (.ins C dx [])) ∧ Hg T (muP μ L.length a) (L ++ [.ins C []]) (upd (upd H dx (.own a)) a (.ins C dx [])) := by
  have hk : ∀ b o, H b = some o → (upd (upd H dx (.own a)) a (.ins C dx [])) b = some o := fun b o e => by
    rw [upd_ne (ne_of_none e ha), upd_ne (ne_of_none e hd)]
    exact e
  have x : Xt μ L.length H (muP μ L.length a) (L.length + 1) (upd (upd H dx (.own a)) a (.ins C dx [])) := xt_new fun b ws e => hk b _ e
  refine ⟨?_, g.cell ha hk ⟨dx, [], upd_same, rfl⟩⟩
  rw [show (L ++ [Cell.ins C []]).length = L.length + 1 by simp]
  exact x
theorem Fin.imp {α β : Type} {rel : Mu → Nat → Hp → α → β → Prop} {W : WV} {μ : Mu} {k : Nat} {H : Hp} {r : R α} {Q Q' : β → Hp → Prop} (h : Fin rel T W μ k H r Q) (hq : ∀ b H', Q b H' → Q' b H') : Fin rel T W μ k H r Q' := by
  cases r with
  | ok a L => exact fun μ' H' b x g q => hq _ _ (h μ' H' b x g q)
  | exc z L => exact h
  | bad => exact h
theorem ev_mk {C : Addr} {np : Nat} {F : Fn} (ht : EvA T W t env mt) : EvE T W (tMk T W C np F t) env fun L => (mt L).bind fun ds L => if ds.length + 1 = np then (F (.ref L.length :: ds) (L ++ [.ins C []])).bind fun r L1 => match r with
    | .non => .ok (.ref L.length) L1
    | _ => .bad else .bad := fun μ L σ H Q g s h =>
  ht μ L σ H _ g s (Fin.bind h fun μ1 L1 H1 ds xs x1 g1 r1 h1 a dx ha hd hne => by
    by_cases c : ds.length + 1 = np
    · rw [if_pos c] at h1
      obtain ⟨x2, g2⟩ := hg_ins (C := C) g1 ha hd hne
      have hl : L1.length < (L1 ++ [Cell.ins C []]).length := by simp
      refine ⟨by rw [List.length_cons, r1.length]; exact c, _, _, .ref L1.length :: ds, g2, ⟨.ref a, xs, rfl, ⟨hl, by rw [muP_new]⟩, r1.mono x2⟩, ?_⟩
      refine Fin.bind (h1.mono x2) fun μ3 L3 H3 d v x3 g3 r3 h3 => ?_
      cases d with
      | non =>
        refine ⟨r3, h3 μ3 H3 _ Xt.refl g3 ⟨Nat.lt_of_lt_of_le hl x3.le, ?_⟩⟩
        rw [x3.mu _ hl, muP_new]
      | _ => exact h3.elim
    · rw [if_neg c] at h1
      exact h1.elim)
/-! ### attributes -/
/-- the classes and attributes that are told -/
def AOk (K : PySem.W.Frag) (cf : Addr → Str → Bool) : Prop := ∀ C f, cf C f = true → Cls K C ∧ NoAttr K C f
theorem ev_fld {K : PySem.W.Frag} {cf : Addr → Str → Bool} {f : Str} (hA : AOk K cf) (ha : EvE T W ta env ma) : EvE T W (tFld K ta f) env fun L => (ma L).bind fun d L => match d with
    | .ref n => match insAt L n with
      | some (C, fs) => match fs.lookup f, cf C f with
        | some e, true => .ok e L
        | _, _ => .bad
      | none => .bad
    | _ => .bad := fun μ L σ H Q g s h =>
  ha μ L σ H _ g s (Fin.bind h fun μ1 L1 H1 d x x1 g1 r1 h1 => by
    cases d with
    | ref n =>
      simp only at h1
      cases e1 : insAt L1 n with
      | none => simp only [e1] at h1; exact h1.elim
      | some z =>
        obtain ⟨C, fs⟩ := z
        simp only [e1] at h1
        obtain ⟨dx, fvs, hi, rf⟩ := ins_at g1 e1
        cases e2 : fs.lookup f with
        | none => simp only [e2] at h1; exact h1.elim
        | some y =>
          cases e3 : cf C f with
          | false => simp only [e2, e3] at h1; exact h1.elim
          | true =>
            simp only [e2, e3] at h1
            obtain ⟨v, hv, rv⟩ := (rf.look (f := f)).1 y e2
            exact ⟨μ1 n, C, dx, fvs, v, r1.2, hi, (hA C f e3).1, (hA C f e3).2, hv, h1 μ1 H1 v Xt.refl g1 rv⟩
    | _ => exact h1.elim)
def putD (f : Str) (d : D) : List (Str × D) → List (Str × D)
  | [] => [(f, d)]
  | (g, x) :: r => if g = f then (g, d) :: r else (g, x) :: putD f d r
theorem rpF_put {μ : Mu} {k : Nat} {H : Hp} {f : Str} {d : D} {v : V} (r : Rp μ k H d v) : ∀ {fs : List (Str × D)} {vs : List (Str × V)}, RpF μ k H fs vs → RpF μ k H (putD f d fs) (putF f v vs)
  | [], _, h => by
    rw [h]
    exact ⟨v, [], rfl, r, rfl⟩
  | (g, y) :: fs, _, ⟨u, ws, e, h1, h2⟩ => by
    rw [e]
    unfold putD putF
    by_cases c : g = f
    · rw [if_pos c, if_pos c]
      exact ⟨v, ws, rfl, r, h2⟩
    · rw [if_neg c, if_neg c]
      exact ⟨u, _, rfl, h1, rpF_put r h2⟩
theorem es_fld {K : PySem.W.Frag} {cf : Addr → Str → Bool} {f : Str} {tv : TE} {ma mv : Sl → LH → R D} (hA : AOk K cf) (ha : ∀ env, EvE T W ta env (ma env)) (hv : ∀ env, EvE T W tv env (mv env)) : EvS T W (sFld K ta tv f) fun env L => eS (mv env L) env fun y L => eS (ma env L) env fun d L => match d with
    | .ref n => match insAt L n with
      | some (C, fs) => if fs.length < 1000 ∧ cf C f = true then .nx env (L.set n (.ins C (putD f y fs))) else .bad
      | none => .bad
    | _ => .bad := fun env μ L σ H D g s q =>
  hv env μ L σ H _ g s (fin_eS s q fun μ1 L1 H1 y v x1 g1 r1 h1 => ha env μ1 L1 σ H1 _ g1 (s.mono x1) (fin_eS (s.mono x1) h1 fun μ2 L2 H2 d x x2 g2 r2 h2 => by
    cases d with
    | ref n =>
      simp only at h2
      cases e1 : insAt L2 n with
      | none => simp only [e1] at h2; exact h2.elim
      | some z =>
        obtain ⟨C, fs⟩ := z
        simp only [e1] at h2
        obtain ⟨dx, fvs, hi, rf⟩ := ins_at g2 e1
        by_cases c : fs.length < 1000 ∧ cf C f = true
        · rw [if_pos c] at h2
          have hcell : L2[n]? = some (.ins C fs) := by
            unfold insAt at e1
            cases q : L2[n]? with
            | none => rw [q] at e1; cases e1
            | some w =>
              rw [q] at e1
              cases w with
              | lst _ _ => cases e1
              | ins C' fs' => cases e1; rfl
          have x0 : Xt μ2 L2.length H2 μ2 L2.length (upd H2 (μ2 n) (.ins C dx (putF f v fvs))) := ⟨Nat.le_refl _, fun _ _ => rfl, fun p ws e => by
            rw [upd_ne (fun z => by rw [z, hi] at e; cases e)]
            exact e⟩
          obtain ⟨g3, x3⟩ := g2.write (c := .ins C (putD f y fs)) (o := .ins C dx (putF f v fvs)) hcell ⟨dx, _, upd_same, (rpF_put (r1.mono x2) rf).mono x0⟩
          exact ⟨μ2 n, C, dx, fvs, r2.2, hi, (hA C f c.2).1, (hA C f c.2).2, by rw [rf.length]; exact c.1, h2 μ2 σ _ x3 g3 (((s.mono x1).mono x2).mono x3)⟩
        · rw [if_neg c] at h2
          exact h2.elim
    | _ => exact h2.elim))
/-! ### xs[i] = v -/
theorem eg_setL {to ti : TE} {mo mi : Sl → LH → R D} (ho : ∀ env, EvE T W to env (mo env)) (hi : ∀ env, EvE T W ti env (mi env)) {te : TE} {m : Sl → LH → R D} (he : ∀ env, EvE T W te env (m env)) :
    EvS T W (tAsg te (gSub to ti rSetL)) fun env L => eS (m env L) env fun y L => eS (mo env L) env fun d L => eS (mi env L) env fun i L => match d, i with
      | .ref n, .int k => match mutAt L n with
        | some xs => match ixN xs.length k with
          | some j => .nx env (L.set n (.lst true (xs.set j y)))
          | none => .bad
        | none => .bad
      | _, _ => .bad := fun env μ L σ H D g s q =>
  he env μ L σ H _ g s (fin_eS s q fun μ1 L1 H1 y v x1 g1 r1 h1 => ho env μ1 L1 σ H1 _ g1 (s.mono x1) (fin_eS (s.mono x1) h1 fun μ2 L2 H2 d x x2 g2 r2 h2 => hi env μ2 L2 σ H2 _ g2 ((s.mono x1).mono x2) (fin_eS ((s.mono x1).mono x2) h2 fun μ3 L3 H3 i iv x3 g3 r3 h3 => by
    cases d with
    | ref n =>
      cases i with
      | int j =>
        simp only at h3
        cases e1 : mutAt L3 n with
        | none => simp only [e1] at h3; exact h3.elim
        | some xs =>
          simp only [e1] at h3
          cases e2 : ixN xs.length j with
          | none => simp only [e2] at h3; exact h3.elim
          | some l =>
            simp only [e2] at h3
            obtain ⟨us, hu, ru⟩ := mut_at g3 e1
            have x0 : Xt μ3 L3.length H3 μ3 L3.length (upd H3 (μ3 n) (.lst (us.set l v))) := ⟨Nat.le_refl _, fun _ _ => rfl, fun p ws e => by
              rw [upd_ne (fun z => by rw [z, hu] at e; cases e)]
              exact e⟩
            obtain ⟨g4, x4⟩ := g3.write (c := .lst true (xs.set l y)) (o := .lst (us.set l v)) (mut_get e1) ⟨_, upd_same, (Rps.set ((r1.mono x2).mono x3) l ru).mono x0⟩
            have ex : x = .ref (μ3 n) := by rw [x3.mu n r2.1]; exact r2.2
            exact ⟨μ3 n, us, j, l, ex, r3, hu, by rw [ru.length]; exact e2, h3 μ3 σ _ x4 g4 ((((s.mono x1).mono x2).mono x3).mono x4)⟩
      | _ => exact h3.elim
    | _ => exact h3.elim)))
end
end DI
set_option Elab.async false
set_option linter.all false
set_option maxRecDepth 100000
set_option maxHeartbeats 2000000
/-! What a piece of text means, over a family of contexts: the words from which a def's meaning is put together. -/
namespace DI
open PySem PySem.Spec PyProof.Rows L2 GxR DW GxA
structure Pr where
  prog : Program
  w : World
  K : PySem.W.Frag
  mg : Str → Option Value
  base : Heap
abbrev Fam := Cx → Prop
/-- what a family's contexts have in common -/
structure Fm (Fa : Fam) (G : Pr) (N : List Str) (sc : Scope) (k : Nat) (W : WX) : Prop where
  n : ∀ X, Fa X → X.N = N
  scp : ∀ X, Fa X → X.env.scope = sc
  g : ∀ X, Fa X → X.prog = G.prog ∧ X.w = G.w ∧ X.K = G.K ∧ X.mg = G.mg ∧ X.base = G.base
  calm : ∀ X, Fa X → X.calm = true
  room : ∀ X, Fa X → Room k X.A
  takes : ∀ X, Fa X → Takes X W
  nd : N.Nodup
def SE (Fa : Fam) (T : Tb) (W : WX) (e : Expr) (m : Sl → LH → R D) : Prop := ∃ te, (∀ X, Fa X → PE X e te) ∧ ∀ env, EvE T W te env (m env)
def SA (Fa : Fam) (T : Tb) (W : WX) (es : List Expr) (m : Sl → LH → R (List D)) : Prop := ∃ ta, (∀ X, Fa X → PA X es ta) ∧ ∀ env, EvA T W ta env (m env)
def SB (Fa : Fam) (T : Tb) (W : WX) (e : Expr) (m : Sl → LH → R Bool) : Prop := ∃ tt, (∀ X, Fa X → PT X e tt) ∧ ∀ env, EvB T W tt env (m env)
def SW (Fa : Fam) (T : Tb) (W : WX) (e : Expr) (m : Sl → LH → R Bool) : Prop := ∃ tt, (∀ X, Fa X → PW X e tt) ∧ ∀ env, EvB T W tt env (m env)
def SO (Fa : Fam) (T : Tb) (W : WX) (e : Option Expr) (m : Sl → LH → R (Option Int)) : Prop := ∃ to, (∀ X, Fa X → PO X e to) ∧ ∀ env, EvO T W to env (m env)
def SI (Fa : Fam) (T : Tb) (W : WX) (tg e : Expr) (m : Sl → LH → R Src) : Prop := ∃ wi, (∀ X, Fa X → PI X tg e wi) ∧ ∀ env, EvI T W wi env (m env)
def SG (Fa : Fam) (T : Tb) (tg : Expr) (js : List Nat) (f : LH → Sl → D → Option Sl) : Prop := ∃ g, (∀ X, Fa X → PG X tg g) ∧ EvG T g js f
def SGs (Fa : Fam) (T : Tb) (tgs : List Expr) (js : List Nat) (f : LH → Sl → List D → Option Sl) : Prop := ∃ g, (∀ X, Fa X → PGs X tgs g) ∧ EvGs T g js f
def SF (Fa : Fam) (T : Tb) (W : WX) (es : List Expr) (m : Sl → LH → R Bool) : Prop := ∃ tt, (∀ X, Fa X → PTs X es tt) ∧ ∀ env, EvB T W tt env (m env)
def SS (Fa : Fam) (T : Tb) (W : WX) (s : Stmt) (m : Sl → LH → RS) : Prop := ∃ ts, (∀ X, Fa X → PS X s ts) ∧ EvS T W ts m
def SSs (Fa : Fam) (T : Tb) (W : WX) (s : List Stmt) (m : Sl → LH → RS) : Prop := ∃ ts, (∀ X, Fa X → PSs X s ts) ∧ EvS T W ts m
/-! ### meanings -/
def eVar (i : Nat) : Sl → LH → R D := fun env L => match env[i]? with
  | some (some d) => .ok d L
  | _ => .bad
def eK (d : D) : Sl → LH → R D := fun _ L => .ok d L
def eOp (f : D → D → LH → R D) (ma mb : Sl → LH → R D) : Sl → LH → R D := fun env L => (ma env L).bind fun d L => (mb env L).bind fun e L => f d e L
def eUn (f : D → LH → R D) (ma : Sl → LH → R D) : Sl → LH → R D := fun env L => (ma env L).bind f
def aNil : Sl → LH → R (List D) := fun _ L => .ok [] L
def aCons (ma : Sl → LH → R D) (mr : Sl → LH → R (List D)) : Sl → LH → R (List D) := fun env L => (ma env L).bind fun d L => (mr env L).bind fun ds L => .ok (d :: ds) L
def eTup (m : Sl → LH → R (List D)) : Sl → LH → R D := fun env L => (m env L).bind fun ds L => if ds.length ≤ 100000 then .ok (.tup ds) L else .bad
def eLst (m : Sl → LH → R (List D)) : Sl → LH → R D := fun env L => (m env L).bind fun ds L => if ds.length ≤ 100000 then .ok (.ref L.length) (L ++ [.lst true ds]) else .bad
def eAnd (ma mb : Sl → LH → R D) : Sl → LH → R D := fun env L => (ma env L).bind fun d L => match d with
  | .bl true => mb env L
  | .bl false => .ok (.bl false) L
  | _ => .bad
def eOr (ma mb : Sl → LH → R D) : Sl → LH → R D := fun env L => (ma env L).bind fun d L => match d with
  | .bl true => .ok (.bl true) L
  | .bl false => mb env L
  | _ => .bad
def eNot (ma : Sl → LH → R D) : Sl → LH → R D := fun env L => (ma env L).bind fun d L => match d with
  | .bl b => .ok (.bl (!b)) L
  | _ => .bad
def eIf (mc : Sl → LH → R Bool) (ma mb : Sl → LH → R D) : Sl → LH → R D := fun env L => (mc env L).bind fun b L => if b = true then ma env L else mb env L
def eChain (f f' : D → D → LH → R D) (ma mb mc : Sl → LH → R D) : Sl → LH → R D := fun env L => (ma env L).bind fun d L => (mb env L).bind fun e L => (f d e L).bind fun z L => match z with
  | .bl true => (mc env L).bind fun u L => f' e u L
  | .bl false => .ok (.bl false) L
  | _ => .bad
def oNone : Sl → LH → R (Option Int) := fun _ L => .ok none L
def oSome (ma : Sl → LH → R D) : Sl → LH → R (Option Int) := fun env L => (ma env L).bind intD
def eSl (ma : Sl → LH → R D) (ml mh : Sl → LH → R (Option Int)) : Sl → LH → R D := fun env L => (ma env L).bind fun d L => (ml env L).bind fun lo L => (mh env L).bind fun hi L => slD d lo hi L
def eCall (f : List D → LH → R D) (m : Sl → LH → R (List D)) : Sl → LH → R D := fun env L => (m env L).bind f
def eFn (np : Nat) (F : Fn) (m : Sl → LH → R (List D)) : Sl → LH → R D := fun env L => (m env L).bind fun ds L => if ds.length = np then F ds L else .bad
def eMe (M : MT) (mn : Str) (ma : Sl → LH → R D) (m : Sl → LH → R (List D)) : Sl → LH → R D := fun env L => (ma env L).bind fun d L => match d with
  | .ref n => match insAt L n with
    | some (C, fs) => match fs.lookup mn, M C with
      | none, some (np, F) => (m env L).bind fun ds L => if ds.length + 1 = np then F (.ref n :: ds) L else .bad
      | _, _ => .bad
    | none => .bad
  | _ => .bad
def eMk (C : Addr) (np : Nat) (F : Fn) (m : Sl → LH → R (List D)) : Sl → LH → R D := fun env L => (m env L).bind fun ds L => if ds.length + 1 = np then (F (.ref L.length :: ds) (L ++ [.ins C []])).bind fun r L1 => match r with
    | .non => .ok (.ref L.length) L1
    | _ => .bad else .bad
def eFld (cf : Addr → Str → Bool) (f : Str) (ma : Sl → LH → R D) : Sl → LH → R D := fun env L => (ma env L).bind fun d L => match d with
  | .ref n => match insAt L n with
    | some (C, fs) => match fs.lookup f, cf C f with
      | some e, true => .ok e L
      | _, _ => .bad
    | none => .bad
  | _ => .bad
def eBm (c : D → LH → Bool) (f : D → List D → LH → R D) (ma : Sl → LH → R D) (m : Sl → LH → R (List D)) : Sl → LH → R D := fun env L => (ma env L).bind fun d L => if c d L = true then (m env L).bind fun ds L => f d ds L else .bad
def eBm0 (c : D → LH → Bool) (f : D → List D → LH → R D) (ma : Sl → LH → R D) : Sl → LH → R D := fun env L => (ma env L).bind fun d L => if c d L = true then f d [] L else .bad
def eLc (mi : Sl → LH → R Src) (f : LH → Sl → D → Option Sl) (t : Sl → LH → R Bool) (m : Sl → LH → R D) (vs : List Nat) : Sl → LH → R D := fun env L => (mi env L).bind fun src L1 => lcD src f (fun e L => noX (t e L)) (fun e L => noX (m e L)) L1.length (wipeE env vs) turnsN 0 (L1 ++ [.lst true []])
def eAg (b0 : Bool) (mi : Sl → LH → R Src) (f : LH → Sl → D → Option Sl) (m : Sl → LH → R D) (capt : List (Option Nat)) : Sl → LH → R D := fun env L => (mi env L).bind fun src L1 => agD src f (fun e L => noX (m e L)) b0 (capE capt env) turnsN 0 L1
def bVal (ma : Sl → LH → R D) : Sl → LH → R Bool := fun env L => (ma env L).bind fun d L => match d with
  | .bl b => .ok b L
  | _ => .bad
def bTru (ma : Sl → LH → R D) : Sl → LH → R Bool := fun env L => (ma env L).bind fun d L => match truD L d with
  | some b => .ok b L
  | none => .bad
def bAnd (m n : Sl → LH → R Bool) : Sl → LH → R Bool := fun env L => (m env L).bind fun b L => if b = true then n env L else .ok false L
def bOr (m n : Sl → LH → R Bool) : Sl → LH → R Bool := fun env L => (m env L).bind fun b L => if b = true then .ok true L else n env L
def bNot (m : Sl → LH → R Bool) : Sl → LH → R Bool := fun env L => (m env L).bind fun b L => .ok (!b) L
def bYes : Sl → LH → R Bool := fun _ L => .ok true L
def iSrc (ma : Sl → LH → R D) : Sl → LH → R Src := fun env L => (ma env L).bind srcD
def iArg (f : List D → LH → R Src) (m : Sl → LH → R (List D)) : Sl → LH → R Src := fun env L => (m env L).bind f
def gNm (i : Nat) : LH → Sl → D → Option Sl := fun _ env d => some (env.set i (some d))
def gNil' : LH → Sl → List D → Option Sl := fun _ env ds => match ds with
  | [] => some env
  | _ => none
def gCon (f : LH → Sl → D → Option Sl) (fs : LH → Sl → List D → Option Sl) : LH → Sl → List D → Option Sl := fun L env ds => match ds with
  | d :: ds => match f L env d with
    | some env1 => fs L env1 ds
    | none => none
  | [] => none
def gTp (n : Nat) (fs : LH → Sl → List D → Option Sl) : LH → Sl → D → Option Sl := fun L env d => match seqD L d with
  | some xs => if xs.length = n then fs L env xs else none
  | none => none
def sNx : Sl → LH → RS := fun env L => .nx env L
def sBk : Sl → LH → RS := fun env L => .bk env L
def sCt : Sl → LH → RS := fun env L => .ct env L
def sBad : Sl → LH → RS := fun _ _ => .bad
def sSeq (m n : Sl → LH → RS) : Sl → LH → RS := fun env L => match m env L with
  | .nx env1 L1 => n env1 L1
  | r => r
def sAsg (m : Sl → LH → R D) (f : LH → Sl → D → Option Sl) : Sl → LH → RS := fun env L => eS (m env L) env fun d L => match f L env d with
  | some env1 => .nx env1 L
  | none => .bad
def sDrop (m : Sl → LH → R D) : Sl → LH → RS := fun env L => eS (m env L) env fun _ L => .nx env L
def sRet (m : Sl → LH → R D) : Sl → LH → RS := fun env L => eS (m env L) env fun d L => .rt d L
def sRetN : Sl → LH → RS := fun _ L => .rt .non L
def sIf (m : Sl → LH → R Bool) (n n' : Sl → LH → RS) : Sl → LH → RS := fun env L => eS (m env L) env fun b L => if b = true then n env L else n' env L
def sFor (mi : Sl → LH → R Src) (f : LH → Sl → D → Option Sl) (m : Sl → LH → RS) : Sl → LH → RS := fun env L => eS (mi env L) env fun src L => forD src f m turnsN 0 env L
def sFldS (cf : Addr → Str → Bool) (f : Str) (ma mv : Sl → LH → R D) : Sl → LH → RS := fun env L => eS (mv env L) env fun y L => eS (ma env L) env fun d L => match d with
  | .ref n => match insAt L n with
    | some (C, fs) => if fs.length < 1000 ∧ cf C f = true then .nx env (L.set n (.ins C (putD f y fs))) else .bad
    | none => .bad
  | _ => .bad
def sSet (mo mi m : Sl → LH → R D) : Sl → LH → RS := fun env L => eS (m env L) env fun y L => eS (mo env L) env fun d L => eS (mi env L) env fun i L => match d, i with
  | .ref n, .int k => match mutAt L n with
    | some xs => match ixN xs.length k with
      | some j => .nx env (L.set n (.lst true (xs.set j y)))
      | none => .bad
    | none => .bad
  | _, _ => .bad
/-! ### static facts -/
def visB (sc : Scope) (x : Str) : Bool := match sc.names.lookup x with
  | some .local => true
  | some .cell => true
  | some .free => true
  | _ => false
theorem vis_of {sc : Scope} {x : Str} (h : visB sc x = true) : Vis sc x := by
  unfold visB at h
  unfold Vis
  cases q : sc.names.lookup x with
  | none => rw [q] at h; cases h
  | some k =>
    rw [q] at h
    cases k with
    | «local» => exact .inl rfl
    | cell => exact .inr (.inl rfl)
    | free => exact .inr (.inr rfl)
    | _ => cases h
def isLoc (sc : Scope) (x : Str) : Bool := match sc.names.lookup x with
  | some .local => true
  | _ => false
theorem loc_of {sc : Scope} {x : Str} (h : isLoc sc x = true) : sc.names.lookup x = some .local := by
  unfold isLoc at h
  cases q : sc.names.lookup x with
  | none => rw [q] at h; cases h
  | some k =>
    rw [q] at h
    cases k with
    | «local» => rfl
    | _ => cases h
def isGlo (sc : Scope) (x : Str) : Bool := match sc.names.lookup x with
  | some .globalImplicit => true
  | _ => false
theorem glo_of {X : Cx} {sc : Scope} {x : Str} (e : X.env.scope = sc) (h : isGlo sc x = true) : Gl X x := by
  unfold isGlo at h
  show X.env.scope.names.lookup x = _
  rw [e]
  cases q : sc.names.lookup x with
  | none => rw [q] at h; cases h
  | some k =>
    rw [q] at h
    cases k with
    | globalImplicit => rfl
    | _ => cases h
def plainE : Expr → Bool
  | .Starred _ _ => false
  | _ => true
theorem star_plain {e : Expr} {es : List Expr} {env : Env} (h : plainE e = true) : starEach (e :: es) env = (false, eval e env) :: starEach es env := by
  cases e with
  | Starred _ _ => cases h
  | _ => rfl
theorem star_any {es : List Expr} {env : Env} {pos : Pos} (h : es.all plainE = true) : (backTo pos (starEach es env)).any (·.1) = false := by
  have go : ∀ es : List Expr, es.all plainE = true → (starEach es env).any (·.1) = false := fun es => by
    induction es with
    | nil => intro _; rfl
    | cons e es ih =>
      intro h
      rw [List.all_cons, Bool.and_eq_true] at h
      rw [star_plain h.1, List.any_cons, ih h.2]
      rfl
  have g := go es h
  unfold backTo
  rw [List.any_map]
  exact g
end DI
set_option Elab.async false
set_option linter.all false
set_option maxRecDepth 100000
set_option maxHeartbeats 2000000
/-! The words: expressions. -/
namespace DI
open PySem PySem.Spec PyProof.Rows L2 GxR DW GxA
section
variable {Fa : Fam} {G : Pr} {N : List Str} {sc : Scope} {k : Nat} {W : WX} {T : Tb} {a b c e o : Expr} {es : List Expr} {pos p p2 apos : Pos} {ma mb mc m : Sl → LH → R D} {mt : Sl → LH → R (List D)} {x : Str} {i : Nat}
theorem se_var (h : Fm Fa G N sc k W) (hi : N[i]? = some x) (hv : visB sc x = true) (hd : (x == ("__debug__" : Str)) = false) (hcd : (x == ("__classdict__" : Str)) = false) : SE Fa T W (.Name x pos) (eVar i) :=
  ⟨_, fun X hX => pe_var (by rw [h.n X hX]; exact hi) (by rw [h.scp X hX]; exact vis_of hv) hd hcd, fun env => ev_var⟩
theorem se_int {i : Int} {j : Nat} : SE Fa T W (.Constant (.int i) j pos) (eK (.int i)) := ⟨_, fun X hX => pe_int, fun env => ev_const fun _ _ _ => rfl⟩
theorem se_bl {i : Bool} {j : Nat} : SE Fa T W (.Constant (.bool i) j pos) (eK (.bl i)) := ⟨_, fun X hX => pe_bl, fun env => ev_const fun _ _ _ => rfl⟩
theorem se_non {j : Nat} : SE Fa T W (.Constant .none j pos) (eK .non) := ⟨_, fun X hX => pe_non, fun env => ev_const fun _ _ _ => rfl⟩
theorem se_str {z : Str} {j : Nat} : SE Fa T W (.Constant (.str z) j pos) (eK (.str z)) := ⟨_, fun X hX => pe_str, fun env => ev_const fun _ _ _ => rfl⟩
theorem se_gint {n : Int} {t : Tok} (h : Fm Fa G N sc k W) (hg : isGlo sc x = true) (hm : G.mg x = some (.int n t)) (hd : (x == ("__debug__" : Str)) = false) : SE Fa T W (.Name x pos) (eK (.int n)) :=
  ⟨_, fun X hX => pe_glob (v := .int n) (glo_of (h.scp X hX) hg) (by rw [(h.g X hX).2.2.2.1]; exact hm) ⟨t, rfl⟩ hd, fun env => ev_const fun _ _ _ => rfl⟩
theorem se_ty {n : String} (h : Fm Fa G N sc k W) (hg : isGlo sc x = true) (hm : G.mg x = none) (hv : bootBuiltins x = some (.type n)) (hn : x ≠ "__name__") (hd : (x == ("__debug__" : Str)) = false) : SE Fa T W (.Name x pos) (eK (.ty n)) :=
  ⟨_, fun X hX => pe_bltn (v := .ty n) (glo_of (h.scp X hX) hg) (by rw [(h.g X hX).2.2.2.1]; exact hm) hv rfl hn hd, fun env => ev_const fun _ _ _ => rfl⟩
theorem se_op {op : Operator} {r : R2} {f : D → D → LH → R D} (ho : ∀ X, Fa X → OpR X (binaryOp op) r) (hs : OpS T r f) (ha : SE Fa T W a ma) (hb : SE Fa T W b mb) : SE Fa T W (.BinOp a op b pos) (eOp f ma mb) := by
  obtain ⟨ta, pa, va⟩ := ha
  obtain ⟨tb, pb, vb⟩ := hb
  exact ⟨_, fun X hX => pe_op (ho X hX) (pa X hX) (pb X hX), fun env => ev_op (va env) (vb env) hs⟩
theorem se_un {op : UnaryOp} {r : V → Hp → VK → Prop} {f : D → LH → R D} (ho : ∀ X, Fa X → UnR X (unaryOp op) r) (hs : UnS T r f) (ha : SE Fa T W a ma) : SE Fa T W (.UnaryOp op a pos) (eUn f ma) := by
  obtain ⟨ta, pa, va⟩ := ha
  exact ⟨_, fun X hX => pe_un (ho X hX) (pa X hX), fun env => ev_un (va env) hs⟩
theorem se_cmp {op : CmpOp} {r : R2} {f : D → D → LH → R D} (ho : ∀ X, Fa X → OpR X (compareOp op) r) (hs : OpS T r f) (ha : SE Fa T W a ma) (hb : SE Fa T W b mb) (hm : behindInMarks op b = false) : SE Fa T W (.Compare a [op] [b] pos) (eOp f ma mb) := by
  obtain ⟨ta, pa, va⟩ := ha
  obtain ⟨tb, pb, vb⟩ := hb
  exact ⟨_, fun X hX => pe_cmpR (ho X hX) (pa X hX) (pb X hX) hm, fun env => ev_op (va env) (vb env) hs⟩
theorem sb_cmp {op : CmpOp} {r : R2} {f : D → D → LH → R D} (ho : ∀ X, Fa X → OpR X (compareOp op) r) (hs : OpS T r f) (ha : SE Fa T W a ma) (hb : SE Fa T W b mb) (hm : behindInMarks op b = false) : SB Fa T W (.Compare a [op] [b] pos) (bVal (eOp f ma mb)) := by
  obtain ⟨ta, pa, va⟩ := ha
  obtain ⟨tb, pb, vb⟩ := hb
  exact ⟨_, fun X hX => pt_cmpR (ho X hX) (pa X hX) (pb X hX) hm, fun env => eb_tt (ev_op (va env) (vb env) hs)⟩
theorem se_chain {op op' : CmpOp} {r r' : R2} {f f' : D → D → LH → R D} (ho : ∀ X, Fa X → OpR X (compareOp op) r) (hs : OpS T r f) (ho' : ∀ X, Fa X → OpR X (compareOp op') r') (hs' : OpS T r' f') (ha : SE Fa T W a ma) (hb : SE Fa T W b mb) (hc : SE Fa T W c mc)
    (hm : lastMarks [op, op'] [b, c] = false) : SE Fa T W (.Compare a [op, op'] [b, c] pos) (eChain f f' ma mb mc) := by
  obtain ⟨ta, pa, va⟩ := ha
  obtain ⟨tb, pb, vb⟩ := hb
  obtain ⟨tc, pc, vc⟩ := hc
  exact ⟨_, fun X hX => pe_chain (ho X hX) (ho' X hX) (pa X hX) (pb X hX) (pc X hX) hm, fun env => ev_chain (va env) (vb env) (vc env) hs hs'⟩
theorem sb_chain {op op' : CmpOp} {r r' : R2} {f f' : D → D → LH → R D} (ho : ∀ X, Fa X → OpR X (compareOp op) r) (hs : OpS T r f) (ho' : ∀ X, Fa X → OpR X (compareOp op') r') (hs' : OpS T r' f') (ha : SE Fa T W a ma) (hb : SE Fa T W b mb) (hc : SE Fa T W c mc)
    (hm : lastMarks [op, op'] [b, c] = false) : SB Fa T W (.Compare a [op, op'] [b, c] pos) (bVal (eChain f f' ma mb mc)) := by
  obtain ⟨ta, pa, va⟩ := ha
  obtain ⟨tb, pb, vb⟩ := hb
  obtain ⟨tc, pc, vc⟩ := hc
  exact ⟨_, fun X hX => pt_chain (ho X hX) (ho' X hX) (pa X hX) (pb X hX) (pc X hX) hm, fun env => eb_tt (ev_chain (va env) (vb env) (vc env) hs hs')⟩
theorem sa_nil : SA Fa T W [] aNil := ⟨_, fun X hX => pa_nil, fun env => ea_nil⟩
theorem sa_cons (hp : plainE a = true) (ha : SE Fa T W a ma) (hr : SA Fa T W es mt) : SA Fa T W (a :: es) (aCons ma mt) := by
  obtain ⟨ta, pa, va⟩ := ha
  obtain ⟨tr, pr, vr⟩ := hr
  exact ⟨_, fun X hX => pa_cons (pa X hX) (pr X hX) (star_plain hp), fun env => ea_cons (va env) (vr env)⟩
theorem se_tup {j : Nat} (h : SA Fa T W es mt) : SE Fa T W (.Tuple es j pos) (eTup mt) := by
  obtain ⟨ta, pa, va⟩ := h
  exact ⟨_, fun X hX => pe_tup (pa X hX), fun env => ev_tup (va env)⟩
theorem se_lst (h : SA Fa T W es mt) : SE Fa T W (.List es pos) (eLst mt) := by
  obtain ⟨ta, pa, va⟩ := h
  exact ⟨_, fun X hX => pe_lst (pa X hX), fun env => ev_lst (va env)⟩
theorem se_one {op : BoolOp} (ha : SE Fa T W a ma) : SE Fa T W (.BoolOp op [a] pos) ma := by
  obtain ⟨ta, pa, va⟩ := ha
  exact ⟨_, fun X hX => pe_one (pa X hX), va⟩
theorem se_and (ha : SE Fa T W a ma) (hb : SE Fa T W (.BoolOp .And (b :: es) pos) mb) : SE Fa T W (.BoolOp .And (a :: b :: es) pos) (eAnd ma mb) := by
  obtain ⟨ta, pa, va⟩ := ha
  obtain ⟨tb, pb, vb⟩ := hb
  exact ⟨_, fun X hX => pe_and (pa X hX) (pb X hX), fun env => ev_andV (va env) (vb env)⟩
theorem se_or (ha : SE Fa T W a ma) (hb : SE Fa T W (.BoolOp .Or (b :: es) pos) mb) : SE Fa T W (.BoolOp .Or (a :: b :: es) pos) (eOr ma mb) := by
  obtain ⟨ta, pa, va⟩ := ha
  obtain ⟨tb, pb, vb⟩ := hb
  exact ⟨_, fun X hX => pe_or (pa X hX) (pb X hX), fun env => ev_orV (va env) (vb env)⟩
theorem ev_notV {ta : TE} {env : Sl} {m : LH → R D} (ha : EvE T W ta env m) : EvE T W (tNotV ta) env fun L => (m L).bind fun d L => match d with
    | .bl b => .ok (.bl (!b)) L
    | _ => .bad := fun μ L σ H Q g s h =>
  ha μ L σ H _ g s (Fin.bind h fun μ1 L1 H1 d x x1 g1 r1 h1 => by
    cases d with
    | bl b => exact ⟨b, r1, h1 μ1 H1 _ Xt.refl g1 rfl⟩
    | _ => exact h1.elim)
theorem se_not (ha : SE Fa T W a ma) : SE Fa T W (.UnaryOp .Not a pos) (eNot ma) := by
  obtain ⟨ta, pa, va⟩ := ha
  exact ⟨_, fun X hX => pe_not (pa X hX), fun env => ev_notV (va env)⟩
theorem se_if {mc : Sl → LH → R Bool} (hc : SB Fa T W c mc) (ha : SE Fa T W a ma) (hb : SE Fa T W b mb) : SE Fa T W (.IfExp c a b pos) (eIf mc ma mb) := by
  obtain ⟨tc, pc, vc⟩ := hc
  obtain ⟨ta, pa, va⟩ := ha
  obtain ⟨tb, pb, vb⟩ := hb
  exact ⟨_, fun X hX => pe_ifExp (pc X hX) (pa X hX) (pb X hX), fun env => ev_ifE (vc env) (va env) (vb env)⟩
/-! ### tests -/
theorem sb_tru (he : ∀ (env : Env) (whole : Sem Value), isTrue a env whole = (do let v ← whole; standAt a.pos; holding [v] (truthy v))) (hG : Fm Fa G N sc k W) (ha : SE Fa T W a ma) : SB Fa T W a (bTru ma) := by
  obtain ⟨ta, pa, va⟩ := ha
  refine ⟨tTruth G.K ta, fun X hX => ?_, fun env => eb_truth (va env)⟩
  have := pt_truth (pa X hX) (he X.env)
  rw [(hG.g X hX).2.2.1] at this
  exact this
theorem sb_not {mc : Sl → LH → R Bool} (ha : SB Fa T W a mc) : SB Fa T W (.UnaryOp .Not a pos) (bNot mc) := by
  obtain ⟨ta, pa, va⟩ := ha
  exact ⟨_, fun X hX => pt_not (pa X hX), fun env => eb_notT (va env)⟩
theorem sb_sw {mc : Sl → LH → R Bool} (ha : SW Fa T W a mc) : SB Fa T W a mc := by
  obtain ⟨ta, pa, va⟩ := ha
  exact ⟨_, fun X hX => (pa X hX).pt, va⟩
theorem sw_and1 {mc : Sl → LH → R Bool} (ha : SB Fa T W a mc) : SW Fa T W (.BoolOp .And [a] pos) mc := by
  obtain ⟨ta, pa, va⟩ := ha
  exact ⟨_, fun X hX => pw_and1 (pa X hX), va⟩
theorem sw_or1 {mc : Sl → LH → R Bool} (ha : SB Fa T W a mc) : SW Fa T W (.BoolOp .Or [a] pos) mc := by
  obtain ⟨ta, pa, va⟩ := ha
  exact ⟨_, fun X hX => pw_or1 (pa X hX), va⟩
theorem sw_and {mc md : Sl → LH → R Bool} (ha : SB Fa T W a mc) (hb : SW Fa T W (.BoolOp .And (b :: es) pos) md) : SW Fa T W (.BoolOp .And (a :: b :: es) pos) (bAnd mc md) := by
  obtain ⟨ta, pa, va⟩ := ha
  obtain ⟨tb, pb, vb⟩ := hb
  exact ⟨_, fun X hX => pw_and (pa X hX) (pb X hX), fun env => eb_and (va env) (vb env)⟩
theorem sw_or {mc md : Sl → LH → R Bool} (ha : SB Fa T W a mc) (hb : SW Fa T W (.BoolOp .Or (b :: es) pos) md) : SW Fa T W (.BoolOp .Or (a :: b :: es) pos) (bOr mc md) := by
  obtain ⟨ta, pa, va⟩ := ha
  obtain ⟨tb, pb, vb⟩ := hb
  exact ⟨_, fun X hX => pw_or (pa X hX) (pb X hX), fun env => eb_or (va env) (vb env)⟩
/-! ### places and slices -/
def plainIxB : Expr → Bool
  | .Slice _ _ none _ => false
  | _ => true
theorem plainIx_of (h : plainIxB b = true) : PlainIx b := fun o i => by
  cases b with
  | Slice lo hi st p =>
    cases st with
    | none => cases h
    | some s => rfl
  | _ => rfl
theorem se_ix (hG : Fm Fa G N sc k W) (hp : plainIxB b = true) (ha : SE Fa T W a ma) (hb : SE Fa T W b mb) : SE Fa T W (.Subscript a b pos) (eOp ixD ma mb) := by
  obtain ⟨ta, pa, va⟩ := ha
  obtain ⟨tb, pb, vb⟩ := hb
  refine ⟨tOp (rIx G.K) ta tb, fun X hX => ?_, fun env => ev_op (va env) (vb env) ops_ixD⟩
  have := pe_ix (pos := pos) (ix_seq (X := X)) (pa X hX) (pb X hX) (plainIx_of hp)
  rw [(hG.g X hX).2.2.1] at this
  exact this
theorem so_none : SO Fa T W none oNone := ⟨_, fun X hX => po_none, fun env => eo_none⟩
theorem so_some (ha : SE Fa T W a ma) : SO Fa T W (some a) (oSome ma) := by
  obtain ⟨ta, pa, va⟩ := ha
  exact ⟨_, fun X hX => po_some (pa X hX), fun env => eo_some (va env)⟩
theorem se_slice {lo hi : Option Expr} {ml mh : Sl → LH → R (Option Int)} (hG : Fm Fa G N sc k W) (ha : SE Fa T W a ma) (hl : SO Fa T W lo ml) (hh : SO Fa T W hi mh) : SE Fa T W (.Subscript a (.Slice lo hi none p2) pos) (eSl ma ml mh) := by
  obtain ⟨ta, pa, va⟩ := ha
  obtain ⟨tl, pl, vl⟩ := hl
  obtain ⟨th, ph, vh⟩ := hh
  refine ⟨tSl (rSlD G.K) ta tl th, fun X hX => ?_, fun env => ev_slice (va env) (vl env) (vh env) sls_D⟩
  have := pe_slice (p2 := p2) (pos := pos) (sl_D (X := X)) (pa X hX) (pl X hX) (ph X hX)
  rw [(hG.g X hX).2.2.1] at this
  exact this
/-! ### calls -/
theorem se_callB {id : String} {r : List V → Hp → VK → Prop} {f : List D → LH → R D} (hG : Fm Fa G N sc k W) (hc : ∀ X, Fa X → CallR X (.builtin id) r) (hs : CaS T r f) (hg : isGlo sc x = true) (hm : G.mg x = none) (hv : bootBuiltins x = some (.builtin id)) (hp : plainE a = true) (hps : es.all plainE = true)
    (ha : SA Fa T W (a :: es) mt) (hn : x ≠ "__name__") (hd : (x == ("__debug__" : Str)) = false) : SE Fa T W (.Call (.Name x p) (a :: es) [] pos) (eCall f mt) := by
  obtain ⟨ta, pa, va⟩ := ha
  exact ⟨_, fun X hX => pe_callB (hc X hX) (glo_of (hG.scp X hX) hg) (by rw [(hG.g X hX).2.2.2.1]; exact hm) hv (pa X hX) hn hd (star_plain hp) (star_any hps), fun env => ev_callB (va env) hs⟩
theorem se_callT {id : String} {r : List V → Hp → VK → Prop} {f : List D → LH → R D} (hG : Fm Fa G N sc k W) (hc : ∀ X, Fa X → CallR X (.type id) r) (hs : CaS T r f) (hg : isGlo sc x = true) (hm : G.mg x = none) (hv : bootBuiltins x = some (.type id)) (hp : plainE a = true) (hps : es.all plainE = true)
    (ha : SA Fa T W (a :: es) mt) (hn : x ≠ "__name__") (hd : (x == ("__debug__" : Str)) = false) : SE Fa T W (.Call (.Name x p) (a :: es) [] pos) (eCall f mt) := by
  obtain ⟨ta, pa, va⟩ := ha
  exact ⟨_, fun X hX => pe_callTy (hc X hX) (glo_of (hG.scp X hX) hg) (by rw [(hG.g X hX).2.2.2.1]; exact hm) hv (pa X hX) hn hd (star_plain hp) (star_any hps), fun env => ev_callB (va env) hs⟩
abbrev FG (G : Pr) (T : Tb) (k : Nat) (f : Addr) (np : Nat) (F : Fn) : Prop := FOk G.prog G.w G.K G.mg G.base T k f np F
theorem Fm.fx (hG : Fm Fa G N sc k W) {j np : Nat} {f : Addr} {F : Fn} (h : FG G T j f np F) (X : Cx) (hX : Fa X) : FX X T j f np F := by
  obtain ⟨e1, e2, e3, e4, e5⟩ := hG.g X hX
  unfold FX
  rw [e1, e2, e3, e4, e5]
  exact h
theorem se_fn {j np : Nat} {f : Addr} {F : Fn} (hG : Fm Fa G N sc k W) (h : FG G T j f np F) (hj : j ≤ k) (hg : isGlo sc x = true) (hm : G.mg x = some (.ref f)) (hk : PySem.W.keepIn G.K (.ref f) = true) (hp : plainE a = true) (hps : es.all plainE = true)
    (ha : SA Fa T W (a :: es) mt) (hd : (x == ("__debug__" : Str)) = false) : SE Fa T W (.Call (.Name x p) (a :: es) [] pos) (eFn np F mt) := by
  obtain ⟨ta, pa, va⟩ := ha
  exact ⟨_, fun X hX => pe_fn (hG.fx h X hX) ((hG.room X hX).mono hj) (hG.takes X hX) (glo_of (hG.scp X hX) hg) (by rw [(hG.g X hX).2.2.2.1]; exact hm) (by rw [(hG.g X hX).2.2.1]; exact hk) (pa X hX) hd (star_plain hp) (star_any hps), fun env => ev_fn (va env)⟩
theorem se_mk {j np : Nat} {f C : Addr} {F : Fn} (hG : Fm Fa G N sc k W) (hM : Mk G.K C f) (h : FG G T j f np F) (hj : j + 1 ≤ k) (hg : isGlo sc x = true) (hm : G.mg x = some (.ref C)) (hp : plainE a = true) (hps : es.all plainE = true)
    (ha : SA Fa T W (a :: es) mt) (hd : (x == ("__debug__" : Str)) = false) : SE Fa T W (.Call (.Name x p) (a :: es) [] pos) (eMk C np F mt) := by
  obtain ⟨ta, pa, va⟩ := ha
  exact ⟨_, fun X hX => pe_mk (by rw [(hG.g X hX).2.2.1]; exact hM) (hG.fx h X hX) ((hG.room X hX).mono hj) (hG.takes X hX) (glo_of (hG.scp X hX) hg) (by rw [(hG.g X hX).2.2.2.1]; exact hm) (pa X hX) hd (star_plain hp) (star_any hps), fun env => ev_mk (va env)⟩
/-- the classes of M have the method -/
def MG (G : Pr) (T : Tb) (j : Nat) (mn : Str) (M : MT) : Prop := ∀ C np F, M C = some (np, F) → ∃ f, Cls G.K C ∧ Meth G.K C mn f ∧ FG G T j f np F
theorem Fm.mo (hG : Fm Fa G N sc k W) {j : Nat} {mn : Str} {M : MT} (h : MG G T j mn M) (X : Cx) (hX : Fa X) : MOk X T j mn M := fun C np F e => by
  obtain ⟨f, a, b, c⟩ := h C np F e
  refine ⟨f, ?_, ?_, hG.fx c X hX⟩
  · rw [(hG.g X hX).2.2.1]
    exact a
  · rw [(hG.g X hX).2.2.1]
    exact b
theorem se_me {j : Nat} {mn : Str} {M : MT} (hG : Fm Fa G N sc k W) (h : MG G T j mn M) (hj : j ≤ k) (ho : SE Fa T W o m) (hp : plainE a = true) (hps : es.all plainE = true) (ha : SA Fa T W (a :: es) mt)
    (ht : ∀ X, Fa X → ∃ pl : Sem Bool, eval (.Call (.Attribute o mn apos) (a :: es) [] pos) X.env = (do
      let ov ← eval o X.env
      standAt apos.atName
      let (f, first) ← holding [ov] (getMethod ov mn pl)
      callWith pos f first (backTo pos (starEach (a :: es) X.env)) (backToKw pos (keywordEach [] X.env)))) : SE Fa T W (.Call (.Attribute o mn apos) (a :: es) [] pos) (eMe M mn m mt) := by
  obtain ⟨ta, pa, va⟩ := ha
  obtain ⟨to, po, vo⟩ := ho
  exact ⟨_, fun X hX => pe_me (po X hX) (hG.mo h X hX) ((hG.room X hX).mono hj) (hG.takes X hX) (pa X hX) (star_plain hp) (star_any hps) (ht X hX).choose_spec, fun env => ev_me (vo env) (va env)⟩
theorem se_me0 {j : Nat} {mn : Str} {M : MT} (hG : Fm Fa G N sc k W) (h : MG G T j mn M) (hj : j ≤ k) (ho : SE Fa T W o m)
    (ht : ∀ X, Fa X → ∃ pl : Sem Bool, eval (.Call (.Attribute o mn apos) [] [] pos) X.env = (do
      let ov ← eval o X.env
      standAt apos.atName
      let (f, first) ← holding [ov] (getMethod ov mn pl)
      callWith pos f first (backTo pos (starEach [] X.env)) (backToKw pos (keywordEach [] X.env)))) : SE Fa T W (.Call (.Attribute o mn apos) [] [] pos) (eMe M mn m aNil) := by
  obtain ⟨to, po, vo⟩ := ho
  exact ⟨_, fun X hX => pe_me0 (po X hX) (hG.mo h X hX) ((hG.room X hX).mono hj) (hG.takes X hX) (ht X hX).choose_spec, fun env => ev_me (vo env) ea_nil⟩
theorem se_fld {cf : Addr → Str → Bool} {f : Str} (hG : Fm Fa G N sc k W) (hA : AOk G.K cf) (ha : SE Fa T W a ma) (hb : ∀ X, Fa X → attributeBase a f X.env (eval a X.env) = eval a X.env) : SE Fa T W (.Attribute a f pos) (eFld cf f ma) := by
  obtain ⟨ta, pa, va⟩ := ha
  refine ⟨tFld G.K ta f, fun X hX => ?_, fun env => ev_fld hA (va env)⟩
  have := pe_fld (pos := pos) (pa X hX) (hb X hX)
  rw [(hG.g X hX).2.2.1] at this
  exact this
end
end DI
set_option Elab.async false
set_option linter.all false
set_option maxRecDepth 100000
set_option maxHeartbeats 2000000
/-! The words: walks, comprehensions, statements, defs. -/
namespace DI
open PySem PySem.Spec PyProof.Rows L2 GxR DW GxA
section
variable {Fa : Fam} {G : Pr} {N : List Str} {sc : Scope} {k : Nat} {W : WX} {T : Tb} {a b c e o tg : Expr} {es : List Expr} {pos p p2 apos cpos gpos : Pos} {ma mb mc m : Sl → LH → R D} {mt : Sl → LH → R (List D)} {x : Str} {i : Nat} {js : List Nat} {f : LH → Sl → D → Option Sl}
/-! ### a list's methods -/
/-- the plain form of a method call on a list -/
structure BmF (Fa : Fam) (o : Expr) (es : List Expr) (name : Str) (cpos : Pos) : Prop where
  base : ∀ X, Fa X → attributeBase o name X.env (eval o X.env) = eval o X.env
  few : ∀ X, Fa X → ((backTo cpos (starEach es X.env)).all (fun x => !x.1) && (backToKw cpos (keywordEach [] X.env)).all (fun x => x.1.isSome) && decide (es.length + ([] : List Keyword).length + (if ([] : List Keyword).isEmpty then 0 else 1) < 30)) = true
theorem se_bm {id : String} {name : Str} {r : V → List V → Hp → VK → Prop} {f : D → List D → LH → R D} (hG : Fm Fa G N sc k W) (pa0 : PlainAttrs "list") (slot : Slot "list" name id) (hty : typeOf (.builtin id) = pure (.type "method_descriptor")) (hm : ∀ X, Fa X → MtR X id r) (hs : MtS T r f)
    (ho : SE Fa T W o m) (hp : plainE a = true) (hps : es.all plainE = true) (ha : SA Fa T W (a :: es) mt) (hB : BmF Fa o (a :: es) name cpos) (hl : (apos.endLine == cpos.line) = true) : SE Fa T W (.Call (.Attribute o name apos) (a :: es) [] cpos) (eBm isL f m mt) := by
  obtain ⟨ta, pa, va⟩ := ha
  obtain ⟨to, po, vo⟩ := ho
  refine ⟨tBM G.K "list" r to ta, fun X hX => ?_, fun env => ev_bm (vo env) (va env) hs fun μ L H d x g r h => isL_ty g r h⟩
  have := pe_bm (apos := apos) (cpos := cpos) pa0 slot hty (hm X hX) (po X hX) (pa X hX) (hB.base X hX) (hB.few X hX) hl (star_plain hp) (star_any hps)
  rw [(hG.g X hX).2.2.1] at this
  exact this
theorem se_bm0 {id : String} {name : Str} {r : V → List V → Hp → VK → Prop} {f : D → List D → LH → R D} (hG : Fm Fa G N sc k W) (pa0 : PlainAttrs "list") (slot : Slot "list" name id) (hty : typeOf (.builtin id) = pure (.type "method_descriptor")) (hm : ∀ X, Fa X → MtR X id r) (hs : MtS T r f)
    (ho : SE Fa T W o m) (hB : ∀ X, Fa X → attributeBase o name X.env (eval o X.env) = eval o X.env) (hl : (apos.endLine == cpos.line) = true) : SE Fa T W (.Call (.Attribute o name apos) [] [] cpos) (eBm0 isL f m) := by
  obtain ⟨to, po, vo⟩ := ho
  refine ⟨tBM0 G.K "list" r to, fun X hX => ?_, fun env => ev_bm0 (vo env) hs fun μ L H d x g r h => isL_ty g r h⟩
  have := pe_bm0 (apos := apos) (cpos := cpos) pa0 slot hty (hm X hX) (po X hX) (hB X hX) hl
  rw [(hG.g X hX).2.2.1] at this
  exact this
/-! ### targets -/
theorem sg_name {vpos : Pos} (hG : Fm Fa G N sc k W) (hi : N[i]? = some x) (hl : isLoc sc x = true) : SG Fa T (.Name x vpos) [i] (gNm i) :=
  ⟨_, fun X hX => by
    have e : X.env.scope.names.lookup x = some .local := by
      rw [hG.scp X hX]
      exact loc_of hl
    exact pg_name (by rw [hG.n X hX]; exact hG.nd) (by rw [hG.n X hX]; exact hi) (.inl e) (.inr e), eg_name⟩
/-- a name that an inner block takes, in the def's own frame -/
theorem sg_cell {vpos : Pos} (hG : Fm Fa G N sc k W) (hi : N[i]? = some x) (hl : sc.names.lookup x = some .cell) (hf : ∀ X, Fa X → X.fn x = true) : SG Fa T (.Name x vpos) [i] (gNm i) :=
  ⟨_, fun X hX => by
    have e : X.env.scope.names.lookup x = some .cell := by
      rw [hG.scp X hX]
      exact hl
    exact pg_name (by rw [hG.n X hX]; exact hG.nd) (by rw [hG.n X hX]; exact hi) (.inr e) (.inl (hf X hX)), eg_name⟩
theorem sgs_nil : SGs Fa T [] [] gNil' := ⟨_, fun X hX => pgs_nil, egs_nil⟩
def plainT : Expr → Bool
  | .Name _ _ => true
  | .Tuple _ _ _ => true
  | .Subscript _ _ _ => true
  | .Attribute _ _ _ => true
  | _ => false
theorem sgs_cons {tgs : List Expr} {ks : List Nat} {fs : LH → Sl → List D → Option Sl} (hp : plainT tg = true) (h : SG Fa T tg js f) (hs : SGs Fa T tgs ks fs) : SGs Fa T (tg :: tgs) (js ++ ks) (gCon f fs) := by
  obtain ⟨g, pg, vg⟩ := h
  obtain ⟨gs, pgs, vgs⟩ := hs
  refine ⟨_, fun X hX => pgs_cons (pg X hX) (pgs X hX) ?_, egs_cons vg vgs⟩
  cases tg <;> first | rfl | (cases hp)
theorem assign_len {env : Env} : ∀ {tgs : List Expr}, tgs.all plainT = true → (assignEach tgs env).length = tgs.length ∧ (assignEach tgs env).findIdx? (·.1) = none
  | [], _ => ⟨rfl, rfl⟩
  | t :: ts, h => by
    rw [List.all_cons, Bool.and_eq_true] at h
    obtain ⟨h1, h2⟩ := assign_len (env := env) h.2
    have e : assignEach (t :: ts) env = (false, assign t env) :: assignEach ts env := by
      cases t <;> first | rfl | (cases h.1)
    rw [e]
    refine ⟨by rw [List.length_cons, List.length_cons, h1], ?_⟩
    rw [List.findIdx?_cons, h2]
    rfl
theorem sg_tup {tgs : List Expr} {j : Nat} {fs : LH → Sl → List D → Option Sl} (hG : Fm Fa G N sc k W) (hp : tgs.all plainT = true) (h : SGs Fa T tgs js fs) : SG Fa T (.Tuple tgs j pos) js (gTp tgs.length fs) := by
  obtain ⟨g, pg, vg⟩ := h
  refine ⟨gSeqA G.K tgs.length g, fun X hX => ?_, eg_seq vg⟩
  have := pg_seqA (k := j) (pos := pos) (n := tgs.length) (hG.calm X hX) (pg X hX) (assign_len hp).1 (assign_len hp).2
  rw [(hG.g X hX).2.2.1] at this
  exact this
/-! ### walks -/
theorem si_seq (hG : Fm Fa G N sc k W) (ha : SE Fa T W a ma) : SI Fa T W tg a (iSrc ma) := by
  obtain ⟨ta, pa, va⟩ := ha
  refine ⟨iSeqA G.K ta, fun X hX => ?_, fun env => ei_seq (va env)⟩
  have := pi_seqA (tg := tg) (pa X hX)
  rw [(hG.g X hX).2.2.1] at this
  exact this
theorem si_rng1 (hG : Fm Fa G N sc k W) (hg : isGlo sc "range" = true) (hm : G.mg "range" = none) (hp : plainE a = true) (ha : SA Fa T W [a] mt) : SI Fa T W tg (.Call (.Name "range" p) [a] [] pos) (iArg rng1D mt) := by
  obtain ⟨ta, pa, va⟩ := ha
  exact ⟨_, fun X hX => pi_range1 (glo_of (hG.scp X hX) hg) (by rw [(hG.g X hX).2.2.2.1]; exact hm) (pa X hX) (star_plain hp), fun env => ei_rng1 (va env)⟩
theorem si_rng2 (hG : Fm Fa G N sc k W) (hg : isGlo sc "range" = true) (hm : G.mg "range" = none) (hp : plainE a = true) (hq : plainE b = true) (ha : SA Fa T W [a, b] mt) : SI Fa T W tg (.Call (.Name "range" p) [a, b] [] pos) (iArg rng2D mt) := by
  obtain ⟨ta, pa, va⟩ := ha
  exact ⟨_, fun X hX => pi_range2 (glo_of (hG.scp X hX) hg) (by rw [(hG.g X hX).2.2.2.1]; exact hm) (pa X hX) (by rw [star_plain hp, star_plain hq]; rfl) (star_plain hq), fun env => ei_rng2 (va env)⟩
theorem si_enum {elts : List Expr} {kk : Nat} {tpos : Pos} (hG : Fm Fa G N sc k W) (hg : isGlo sc "enumerate" = true) (hm : G.mg "enumerate" = none) (hp : plainE a = true) (ha : SA Fa T W [a] mt) : SI Fa T W (.Tuple elts kk tpos) (.Call (.Name "enumerate" p) [a] [] pos) (iArg enumD mt) := by
  obtain ⟨ta, pa, va⟩ := ha
  refine ⟨iEnumK G.K ta, fun X hX => ?_, fun env => ei_enum (va env)⟩
  have := pi_enumK (p := p) (pos := pos) (tpos := tpos) (elts := elts) (kk := kk) (glo_of (hG.scp X hX) hg) (by rw [(hG.g X hX).2.2.2.1]; exact hm) (pa X hX) (star_plain hp)
  rw [(hG.g X hX).2.2.1] at this
  exact this
theorem si_zip {elts : List Expr} {kk : Nat} {tpos : Pos} (hG : Fm Fa G N sc k W) (hg : isGlo sc "zip" = true) (hm : G.mg "zip" = none) (hp : plainE a = true) (hq : plainE b = true) (ha : SA Fa T W [a, b] mt) : SI Fa T W (.Tuple elts kk tpos) (.Call (.Name "zip" p) [a, b] [] pos) (iArg zipD mt) := by
  obtain ⟨ta, pa, va⟩ := ha
  refine ⟨iZipK G.K ta, fun X hX => ?_, fun env => ei_zip (va env)⟩
  have := pi_zipK (p := p) (pos := pos) (tpos := tpos) (elts := elts) (kk := kk) (glo_of (hG.scp X hX) hg) (by rw [(hG.g X hX).2.2.2.1]; exact hm) (pa X hX) (star_plain hp) (star_any (by rw [List.all_cons, hq]; rfl))
  rw [(hG.g X hX).2.2.1] at this
  exact this
/-! ### comprehensions -/
/-- the blocks of a comprehension -/
def Blk (Fa : Fam) (scope : Scope) : Fam := fun Y => ∃ (X : Cx) (s : Shared) (H : Hp) (C : Addr) (cl : List (Str × Addr)) (fp : List Addr), Fa X ∧ Y = X.blk s H scope (compEnvC scope cl C X.env) fp
abbrev WF : WX := fun _ _ _ _ => False
theorem blk_fm {scope : Scope} (hG : Fm Fa G N sc k W) : Fm (Blk Fa scope) G N (relS scope sc) k WF := by
  refine ⟨?_, ?_, ?_, ?_, ?_, fun X _ => takes_none5, hG.nd⟩
  · rintro Y ⟨X, s, H, C, cl, fp, hX, rfl⟩
    exact hG.n X hX
  · rintro Y ⟨X, s, H, C, cl, fp, hX, rfl⟩
    show relS scope X.env.scope = _
    rw [hG.scp X hX]
  · rintro Y ⟨X, s, H, C, cl, fp, hX, rfl⟩
    exact hG.g X hX
  · rintro Y ⟨X, s, H, C, cl, fp, hX, rfl⟩
    exact hG.calm X hX
  · rintro Y ⟨X, s, H, C, cl, fp, hX, rfl⟩
    exact hG.room X hX
theorem blk_fn {scope : Scope} {y : Str} (h : (scope.names.lookup y == some .cell) = true) : ∀ X, Blk Fa scope X → X.fn y = true := by
  rintro Y ⟨X, s, H, C, cl, fp, hX, rfl⟩
  exact h
theorem sf_nil : SF Fa T W [] bYes := ⟨_, fun X hX => pts_nil, fun env => eb_yes⟩
theorem sf_one {mc : Sl → LH → R Bool} (h : SB Fa T W c mc) : SF Fa T W [c] mc := by
  obtain ⟨t, pt, vt⟩ := h
  exact ⟨_, fun X hX => pts_one (pt X hX), vt⟩
def noSet : Expr → Bool
  | .Set _ _ _ => false
  | _ => true
theorem noSet_ok (h : noSet a = true) (env : Env) (v : Value) : foldedSetIterable a env v = pure v := by
  cases a <;> first | rfl | (cases h)
theorem se_lc {scope : Scope} {own : List (Str × Nat)} {ifs : List Expr} {mi : Sl → LH → R Src} {t : Sl → LH → R Bool} (hG : Fm Fa G N sc k W) (ok : BlkOk N sc scope own) (hi : SI Fa T W tg a mi) (hn : noSet a = true)
    (hg : SG (Blk Fa scope) T tg js f) (hj : (js.all fun j => decide (j ∈ own.map (·.2))) = true) (ht : SF (Blk Fa scope) T WF ifs t) (he : SE (Blk Fa scope) T WF e m) : SE Fa T W (.ListComp e [⟨tg, a, ifs, 0⟩] scope pos) (eLc mi f t m (own.map (·.2))) := by
  obtain ⟨wi, pi, vi⟩ := hi
  obtain ⟨g, pg, vg⟩ := hg
  obtain ⟨tt, pt, vt⟩ := ht
  obtain ⟨te, pe, ve⟩ := he
  refine ⟨tLc wi g tt te (own.map (·.2)), fun X hX => ?_, fun env => ev_lc (vi env) vg (fun j hj' => of_decide_eq_true (List.all_eq_true.mp hj j hj')) vt ve⟩
  refine pe_lc (hG.calm X hX) (by rw [hG.n X hX]; exact hG.nd) (pi X hX) (by rw [hG.n X hX, hG.scp X hX]; exact ok) (fun s H C cl fp => pg _ ⟨X, s, H, C, cl, fp, hX, rfl⟩) (fun s H C cl fp => pt _ ⟨X, s, H, C, cl, fp, hX, rfl⟩) (fun s H C cl fp => pe _ ⟨X, s, H, C, cl, fp, hX, rfl⟩) (fun v => noSet_ok hn _ v)
/-- x = [..], on one line -/
theorem ss_lc {scope : Scope} {own : List (Str × Nat)} {ifs : List Expr} {mi : Sl → LH → R Src} {t : Sl → LH → R Bool} {y : Str} {py spos : Pos} (hG : Fm Fa G N sc k W) (ok : BlkOk N sc scope own) (hi : SI Fa T W tg a mi) (hn : noSet a = true)
    (hy : N[i]? = some y) (hyl : isLoc sc y = true) (hk : sc.kind = .function) (hl : (py.line == pos.line) = true) (hb : (scope.names.any fun (n, k) => n == y && (k == .local || k == .cell)) = false)
    (hg : SG (Blk Fa scope) T tg js f) (hj : (js.all fun j => decide (j ∈ own.map (·.2))) = true) (ht : SF (Blk Fa scope) T WF ifs t) (he : SE (Blk Fa scope) T WF e m) : SS Fa T W (.Assign [.Name y py] (.ListComp e [⟨tg, a, ifs, 0⟩] scope pos) spos) (sAsg (eLc mi f t m (own.map (·.2))) (gNm i)) := by
  obtain ⟨wi, pi, vi⟩ := hi
  obtain ⟨g, pg, vg⟩ := hg
  obtain ⟨tt, pt, vt⟩ := ht
  obtain ⟨te, pe, ve⟩ := he
  refine ⟨tAsg (tLc wi g tt te (own.map (·.2))) (gName i), fun X hX => ?_, es_asg (fun env => ev_lc (vi env) vg (fun j hj' => of_decide_eq_true (List.all_eq_true.mp hj j hj')) vt ve) eg_name⟩
  have hyl' : X.env.scope.names.lookup y = some .local := by rw [hG.scp X hX]; exact loc_of hyl
  refine ps_setLc (hG.calm X hX) (by rw [hG.n X hX]; exact hG.nd) (by rw [hG.n X hX]; exact hy) hyl' (sw_true (by rw [hG.scp X hX]; exact hk) hyl' hl hb) (pi X hX) (by rw [hG.n X hX, hG.scp X hX]; exact ok) (fun s H C cl fp => pg _ ⟨X, s, H, C, cl, fp, hX, rfl⟩) (fun s H C cl fp => pt _ ⟨X, s, H, C, cl, fp, hX, rfl⟩) (fun s H C cl fp => pe _ ⟨X, s, H, C, cl, fp, hX, rfl⟩) (fun v => noSet_ok hn _ v)
/-! ### any, all -/
def Gen (Fa : Fam) (scope : Scope) (N' : List Str) (j : Nat) : Fam := fun Y => ∃ (X : Cx) (s : Shared) (H : Hp) (C : Addr) (code : Value) (bi : Addr) (fp : List Addr), Fa X ∧ Y = gxCx X s H N' (genEnv scope (cloFrom X.env.cells scope.names []) C code bi X.env) fp ∧ Room j Y.A
/-- .. whatever the room -/
def Gen0 (Fa : Fam) (scope : Scope) (N' : List Str) : Fam := fun Y => ∃ (X : Cx) (s : Shared) (H : Hp) (C : Addr) (code : Value) (bi : Addr) (fp : List Addr), Fa X ∧ Y = gxCx X s H N' (genEnv scope (cloFrom X.env.cells scope.names []) C code bi X.env) fp
theorem gen_fm {scope : Scope} {N' : List Str} {j : Nat} (hG : Fm Fa G N sc k W) (nd : N'.Nodup) : Fm (Gen Fa scope N' j) G N' scope j WF := by
  refine ⟨?_, ?_, ?_, ?_, ?_, fun X _ => takes_none5, nd⟩
  · rintro Y ⟨X, s, H, C, code, bi, fp, hX, rfl, _⟩
    rfl
  · rintro Y ⟨X, s, H, C, code, bi, fp, hX, rfl, _⟩
    rfl
  · rintro Y ⟨X, s, H, C, code, bi, fp, hX, rfl, _⟩
    exact hG.g X hX
  · rintro Y ⟨X, s, H, C, code, bi, fp, hX, rfl, _⟩
    rfl
  · rintro Y ⟨X, s, H, C, code, bi, fp, hX, rfl, hr⟩
    exact hr
/-- the def's code object and its table -/
structure CdOk (Fa : Fam) (G : Pr) (T : Tb) (cd P : Addr) : Prop where
  mem : P ∈ T
  tab : TabB G.base G.mg cd P
  code : ∀ X, Fa X → X.env.code = .ref cd
/-- a target in the generator's own frame: names only -/
def SGn (T : Tb) (tg : Expr) (sc : Scope) (N : List Str) (js : List Nat) (f : LH → Sl → D → Option Sl) : Prop := ∀ (K : PySem.W.Frag), ∃ g, (∀ X : Cx, X.K = K → X.calm = true → X.N = N → N.Nodup → X.env.scope = sc → PG X tg g) ∧ EvG T g js f
def SGns (T : Tb) (tgs : List Expr) (sc : Scope) (N : List Str) (js : List Nat) (f : LH → Sl → List D → Option Sl) : Prop := ∀ (K : PySem.W.Frag), ∃ g, (∀ X : Cx, X.K = K → X.calm = true → X.N = N → N.Nodup → X.env.scope = sc → PGs X tgs g) ∧ EvGs T g js f
theorem sgn_name {vpos : Pos} (hi : N[i]? = some x) (hl : isLoc sc x = true) : SGn T (.Name x vpos) sc N [i] (gNm i) := fun K =>
  ⟨_, fun X hK hc hN nd hs => by
    have e : X.env.scope.names.lookup x = some .local := by
      rw [hs]
      exact loc_of hl
    exact pg_name (by rw [hN]; exact nd) (by rw [hN]; exact hi) (.inl e) (.inr e), eg_name⟩
theorem sgns_nil : SGns T [] sc N [] gNil' := fun K => ⟨_, fun X _ _ _ _ _ => pgs_nil, egs_nil⟩
theorem sgns_cons {tgs : List Expr} {ks : List Nat} {fs : LH → Sl → List D → Option Sl} (hp : plainT tg = true) (h : SGn T tg sc N js f) (hs : SGns T tgs sc N ks fs) : SGns T (tg :: tgs) sc N (js ++ ks) (gCon f fs) := fun K => by
  obtain ⟨g, pg, vg⟩ := h K
  obtain ⟨gs, pgs, vgs⟩ := hs K
  refine ⟨_, fun X a b c d e => pgs_cons (pg X a b c d e) (pgs X a b c d e) ?_, egs_cons vg vgs⟩
  cases tg <;> first | rfl | (cases hp)
theorem sgn_tup {tgs : List Expr} {j : Nat} {fs : LH → Sl → List D → Option Sl} (hp : tgs.all plainT = true) (h : SGns T tgs sc N js fs) : SGn T (.Tuple tgs j pos) sc N js (gTp tgs.length fs) := fun K => by
  obtain ⟨g, pg, vg⟩ := h K
  refine ⟨gSeqA K tgs.length g, fun X a b c d e => ?_, eg_seq vg⟩
  have := pg_seqA (k := j) (pos := pos) (n := tgs.length) b (pg X a b c d e) (assign_len hp).1 (assign_len hp).2
  rw [a] at this
  exact this
def noDisp : Expr → Bool
  | .Set _ _ _ => false
  | .List _ _ => false
  | _ => true
theorem genFold_ok (h : noDisp a = true) (env : Env) (v : Value) : genFold a env v = pure v := by
  cases a <;> first | rfl | (cases h)
theorem se_all {scope : Scope} {N' : List Str} {capt : List (Option Nat)} {cd P : Addr} {j : Nat} {mi : Sl → LH → R Src} (hG : Fm Fa G N sc k W) (hk : j + 1 ≤ k) (hC : CdOk Fa G T cd P) (S : GOk N sc scope N' capt) (hga : isGlo sc "all" = true) (hm : G.mg "all" = none) (hi : SI Fa T W tg a mi) (hn : noDisp a = true)
    (hg : SGn T tg scope N' js f) (hj : (js.all fun j => match capt[j]? with | some none => true | _ => false) = true) (he : SE (Gen Fa scope N' j) T WF e m) : SE Fa T W (.Call (.Name "all" p) [.GeneratorExp e [⟨tg, a, [], 0⟩] scope gpos] [] pos) (eAg true mi f m capt) := by
  obtain ⟨wi, pi, vi⟩ := hi
  obtain ⟨g, pg, vg⟩ := hg G.K
  obtain ⟨te, pe, ve⟩ := he
  refine ⟨tAG P true wi g te capt, fun X hX => ?_, fun env => ev_ag hC.mem (vi env) vg (fun j hj' => ?_) ve⟩
  · obtain ⟨e1, e2, e3, e4, e5⟩ := hG.g X hX
    refine pe_all (k := j) ((hG.room X hX).mono hk) (hG.calm X hX) (glo_of (hG.scp X hX) hga) (by rw [e4]; exact hm) (by rw [e4, e5]; exact hC.tab) (hC.code X hX) (by rw [hG.n X hX, hG.scp X hX]; exact S) (pi X hX) (fun s H C code bi fp => pg _ e3 rfl rfl S.nd rfl) (fun s H C code bi fp hr => pe _ ⟨X, s, H, C, code, bi, fp, hX, rfl, hr⟩) (by decide +kernel) (fun v => genFold_ok hn _ v)
  · have := List.all_eq_true.mp hj j hj'
    cases q : capt[j]? with
    | none => rw [q] at this; cases this
    | some o =>
      cases o with
      | none => rfl
      | some _ => rw [q] at this; cases this
theorem se_any {scope : Scope} {N' : List Str} {capt : List (Option Nat)} {cd P : Addr} {j : Nat} {mi : Sl → LH → R Src} (hG : Fm Fa G N sc k W) (hk : j + 1 ≤ k) (hC : CdOk Fa G T cd P) (S : GOk N sc scope N' capt) (hga : isGlo sc "any" = true) (hm : G.mg "any" = none) (hi : SI Fa T W tg a mi) (hn : noDisp a = true)
    (hg : SGn T tg scope N' js f) (hj : (js.all fun j => match capt[j]? with | some none => true | _ => false) = true) (he : SE (Gen Fa scope N' j) T WF e m) : SE Fa T W (.Call (.Name "any" p) [.GeneratorExp e [⟨tg, a, [], 0⟩] scope gpos] [] pos) (eAg false mi f m capt) := by
  obtain ⟨wi, pi, vi⟩ := hi
  obtain ⟨g, pg, vg⟩ := hg G.K
  obtain ⟨te, pe, ve⟩ := he
  refine ⟨tAG P false wi g te capt, fun X hX => ?_, fun env => ev_ag hC.mem (vi env) vg (fun j hj' => ?_) ve⟩
  · obtain ⟨e1, e2, e3, e4, e5⟩ := hG.g X hX
    refine pe_any (k := j) ((hG.room X hX).mono hk) (hG.calm X hX) (glo_of (hG.scp X hX) hga) (by rw [e4]; exact hm) (by rw [e4, e5]; exact hC.tab) (hC.code X hX) (by rw [hG.n X hX, hG.scp X hX]; exact S) (pi X hX) (fun s H C code bi fp => pg _ e3 rfl rfl S.nd rfl) (fun s H C code bi fp hr => pe _ ⟨X, s, H, C, code, bi, fp, hX, rfl, hr⟩) (by decide +kernel) (fun v => genFold_ok hn _ v)
  · have := List.all_eq_true.mp hj j hj'
    cases q : capt[j]? with
    | none => rw [q] at this; cases this
    | some o =>
      cases o with
      | none => rfl
      | some _ => rw [q] at this; cases this
/-! ### statements -/
def noComp : Expr → Bool
  | .ListComp _ _ _ _ => false
  | .SetComp _ _ _ _ => false
  | .DictComp _ _ _ _ _ => false
  | _ => true
theorem noComp_ok (h : noComp a = true) (t : Option Expr) (l : Nat) (env : Env) : swapsWith a t l env = pure false := by
  cases a <;> first | rfl | (cases h)
theorem ss_set {py spos : Pos} (hG : Fm Fa G N sc k W) (hi : N[i]? = some x) (hl : isLoc sc x = true) (hc : noComp a = true) (ha : SE Fa T W a ma) : SS Fa T W (.Assign [.Name x py] a spos) (sAsg ma (gNm i)) := by
  obtain ⟨ta, pa, va⟩ := ha
  refine ⟨_, fun X hX => ?_, es_asg va eg_name⟩
  have e : X.env.scope.names.lookup x = some .local := by rw [hG.scp X hX]; exact loc_of hl
  exact ps_set (by rw [hG.n X hX]; exact hG.nd) (by rw [hG.n X hX]; exact hi) (.inl e) (pa X hX) (noComp_ok hc _ _ _) (.inr e)
/-- a name that an inner block takes -/
theorem ss_setC {py spos : Pos} (hG : Fm Fa G N sc k W) (hi : N[i]? = some x) (hl : sc.names.lookup x = some .cell) (hf : ∀ X, Fa X → X.fn x = true) (ha : SE Fa T W a ma) (hk : sc.kind = .function) : SS Fa T W (.Assign [.Name x py] a spos) (sAsg ma (gNm i)) := by
  obtain ⟨ta, pa, va⟩ := ha
  refine ⟨_, fun X hX => ?_, es_asg va eg_name⟩
  have e : X.env.scope.names.lookup x = some .cell := by rw [hG.scp X hX]; exact hl
  refine ps_set (by rw [hG.n X hX]; exact hG.nd) (by rw [hG.n X hX]; exact hi) (.inr e) (pa X hX) ?_ (.inl (hf X hX))
  have ek : X.env.kindOf x = some .cell := e
  unfold swapsWith
  cases a <;> first | rfl | (simp only [ek]; cases (X.env.blockKind == ScopeKind.function) <;> rfl)
theorem ss_tup {tgs : List Expr} {j : Nat} {tpos spos : Pos} {fs : LH → Sl → List D → Option Sl} (hG : Fm Fa G N sc k W) (hp : tgs.all plainT = true) (hs : SGs Fa T tgs js fs) (ha : SE Fa T W a ma) (h1 : ∀ X, Fa X → swapsWithSole [.Tuple tgs j tpos] a spos.line X.env = pure false) (h2 : ∀ X, Fa X → swappedStores [.Tuple tgs j tpos] a X.env = pure none) :
    SS Fa T W (.Assign [.Tuple tgs j tpos] a spos) (sAsg ma (gTp tgs.length fs)) := by
  obtain ⟨ta, pa, va⟩ := ha
  obtain ⟨g, pg, vg⟩ := sg_tup (pos := tpos) (j := j) hG hp hs
  exact ⟨_, fun X hX => ps_asg (pa X hX) (pg X hX) (h1 X hX) (h2 X hX) rfl, es_asg va vg⟩
theorem ss_expr (hc : noComp a = true) (ha : SE Fa T W a ma) : SS Fa T W (.Expr a pos) (sDrop ma) := by
  obtain ⟨ta, pa, va⟩ := ha
  exact ⟨_, fun X hX => ps_expr (pa X hX) (noComp_ok hc _ _ _), es_drop va⟩
theorem ss_ret (ha : SE Fa T W a ma) : SS Fa T W (.Return (some a) pos) (sRet ma) := by
  obtain ⟨ta, pa, va⟩ := ha
  exact ⟨_, fun X hX => ps_ret (pa X hX), es_ret va⟩
theorem ss_retN : SS Fa T W (.Return none pos) sRetN := ⟨_, fun X hX => ps_retN, es_retN⟩
theorem ss_pass : SS Fa T W (.Pass pos) sNx := ⟨_, fun X hX => ps_pass, es_next⟩
theorem ss_break : SS Fa T W (.Break pos) sBk := ⟨_, fun X hX => ps_break, es_break⟩
theorem ss_cont : SS Fa T W (.Continue pos) sCt := ⟨_, fun X hX => ps_continue, es_cont⟩
theorem ss_if {mc : Sl → LH → R Bool} {ps qs : List Stmt} {m1 m2 : Sl → LH → RS} (hc : SB Fa T W c mc) (h1 : SSs Fa T W ps m1) (h2 : SSs Fa T W qs m2) : SS Fa T W (.If c ps qs pos) (sIf mc m1 m2) := by
  obtain ⟨tc, pc, vc⟩ := hc
  obtain ⟨t1, p1, v1⟩ := h1
  obtain ⟨t2, p2, v2⟩ := h2
  exact ⟨_, fun X hX => ps_if (pc X hX) (p1 X hX) (p2 X hX), es_if vc v1 v2⟩
/-- statements that are never reached -/
theorem sss_bad {ps : List Stmt} : SSs Fa T W ps sBad := ⟨tNever, fun X hX => pss_never, fun env μ L σ H D g s h => h.elim⟩
theorem sss_nil : SSs Fa T W [] sNx := ⟨_, fun X hX => pss_nil, es_next⟩
theorem sss_cons {s : Stmt} {ps : List Stmt} {m1 m2 : Sl → LH → RS} (h1 : SS Fa T W s m1) (h2 : SSs Fa T W ps m2) : SSs Fa T W (s :: ps) (sSeq m1 m2) := by
  obtain ⟨t1, p1, v1⟩ := h1
  obtain ⟨t2, p2, v2⟩ := h2
  exact ⟨_, fun X hX => pss_cons (p1 X hX) (p2 X hX), es_seq v1 v2⟩
theorem sss_one {s : Stmt} {m1 : Sl → LH → RS} (h1 : SS Fa T W s m1) : SSs Fa T W [s] m1 := by
  obtain ⟨t1, p1, v1⟩ := h1
  exact ⟨_, fun X hX => pss_one (p1 X hX), v1⟩
/-- the exceptions that leave are of this frame's own -/
def Own (Fa : Fam) : Prop := ∀ X, Fa X → PassesOwn (model X.prog X.w) X.A X.env X.xe
theorem ss_for {mi : Sl → LH → R Src} {body : List Stmt} {mb : Sl → LH → RS} (hG : Fm Fa G N sc k W) (hO : Own Fa) (hi : SI Fa T W tg a mi) (hn : noSet a = true) (hg : SG Fa T tg js f) (hb : SSs Fa T W body mb) : SS Fa T W (.For tg a body [] pos) (sFor mi f mb) := by
  obtain ⟨wi, pi, vi⟩ := hi
  obtain ⟨g, pg, vg⟩ := hg
  obtain ⟨tb, pb, vb⟩ := hb
  exact ⟨_, fun X hX => ps_for (hO X hX) (hG.calm X hX) (pi X hX) (pg X hX) (pb X hX) (fun v => noSet_ok hn _ v), es_for vi vg vb⟩
theorem ss_fld {cf : Addr → Str → Bool} {fl : Str} {pos' spos : Pos} (hG : Fm Fa G N sc k W) (hA : AOk G.K cf) (hc : noComp a = true) (ho : SE Fa T W o m) (ha : SE Fa T W a ma) : SS Fa T W (.Assign [.Attribute o fl pos'] a spos) (sFldS cf fl m ma) := by
  obtain ⟨ta, pa, va⟩ := ha
  obtain ⟨to, po, vo⟩ := ho
  refine ⟨sFld G.K to ta fl, fun X hX => ?_, es_fld hA vo va⟩
  have := ps_fld (f := fl) (pos := spos) (pos' := pos') (po X hX) (pa X hX) (noComp_ok hc _ _ _)
  rw [(hG.g X hX).2.2.1] at this
  exact this
theorem ss_sub {spos tpos : Pos} (hc : noComp e = true) (hq : plainIxB b = true) (ho : SE Fa T W a ma) (hb : SE Fa T W b mb) (he : SE Fa T W e m) (h2 : ∀ X, Fa X → swappedStores [.Subscript a b tpos] e X.env = pure none)
    (hs : ∀ X, Fa X → ∀ v, assign (.Subscript a b tpos) X.env v = (do
      let ov ← holding [v] (eval a X.env)
      let iv ← holding [v, ov] (eval b X.env)
      standAt tpos
      holding [v, ov, iv] (setItem ov iv v)
      release [v, ov, iv] [])) : SS Fa T W (.Assign [.Subscript a b tpos] e spos) (sSet ma mb m) := by
  obtain ⟨ta, pa, va⟩ := ho
  obtain ⟨tb, pb, vb⟩ := hb
  obtain ⟨te, pe, ve⟩ := he
  exact ⟨_, fun X hX => ps_asg (pe X hX) (pg_sub (pa X hX) (pb X hX) set_list (hs X hX)) (by unfold swapsWithSole; exact noComp_ok hc _ _ _) (h2 X hX) rfl, eg_setL va vb ve⟩
/-- a try whose body lets nothing out -/
def sTry (mb : Sl → LH → RS) : Sl → LH → RS := fun env L => match mb env L with
    | .exc _ _ _ => .bad
    | r => r
def Nox (Fa : Fam) : Fam := fun Y => ∃ X, Fa X ∧ Y = X.nox
theorem nox_fn {y : Str} (h : ∀ X, Fa X → X.fn y = true) : ∀ X, Nox Fa X → X.fn y = true := by
  rintro Y ⟨X, hX, rfl⟩
  exact h X hX
theorem ss_try {body : List Stmt} {h₀ : ExceptHandler} {hs : List ExceptHandler} {mb : Sl → LH → RS} (hb : SSs (Nox Fa) T WF body mb) : SS Fa T W (.Try body (h₀ :: hs) [] [] pos) (sTry mb) := by
  obtain ⟨tb, pb, vb⟩ := hb
  refine ⟨tb, fun X hX => ps_try_thru0 (pb _ ⟨X, hX, rfl⟩), fun env μ L σ H D g s q => vb env μ L σ H D g s ?_⟩
  unfold sTry at q
  cases e : mb env L with
  | exc x env' L' => simp only [e] at q; exact q.elim
  | nx _ _ => simp only [e] at q; exact q
  | rt _ _ => simp only [e] at q; exact q
  | bk _ _ => simp only [e] at q; exact q
  | ct _ _ => simp only [e] at q; exact q
  | bad => simp only [e] at q; exact q.elim
theorem nox_fm (hG : Fm Fa G N sc k W) : Fm (Nox Fa) G N sc k WF := by
  refine ⟨?_, ?_, ?_, ?_, ?_, fun X _ => takes_none5, hG.nd⟩
  · rintro Y ⟨X, hX, rfl⟩
    exact hG.n X hX
  · rintro Y ⟨X, hX, rfl⟩
    exact hG.scp X hX
  · rintro Y ⟨X, hX, rfl⟩
    exact hG.g X hX
  · rintro Y ⟨X, hX, rfl⟩
    exact hG.calm X hX
  · rintro Y ⟨X, hX, rfl⟩
    exact hG.room X hX
end
/-! ### a def -/
def startE (N : List Str) (ds : List D) : Sl := ds.map some ++ List.replicate (N.length - ds.length) none
def fnD (N : List Str) (m : Sl → LH → RS) : Fn := fun ds L => match m (startE N ds) L with
  | .rt d L => .ok d L
  | .nx _ L => .ok .non L
  | .exc x _ L => .exc x L
  | _ => .bad
theorem sok_start {μ : Mu} {k : Nat} {H : Hp} {N : List Str} {ds : List D} {vs : List V} (r : Rps μ k H ds vs) : SOk μ k H (startE N ds) (L2.start N vs) := by
  have hl := r.length
  refine ⟨?_, fun i d e => ?_⟩
  · unfold startE L2.start
    rw [List.length_append, List.length_append, List.length_map, List.length_map, List.length_replicate, List.length_replicate, hl]
  · unfold startE at e
    unfold L2.start
    by_cases h : i < ds.length
    · rw [List.getElem?_append_left (by rw [List.length_map]; exact h), List.getElem?_map] at e
      cases q : ds[i]? with
      | none => rw [q] at e; cases e
      | some d' =>
        rw [q] at e
        cases e
        obtain ⟨v, a, b⟩ := r.get q
        refine ⟨v, ?_, b⟩
        rw [List.getElem?_append_left (by rw [List.length_map, hl]; exact h), List.getElem?_map, a]
        rfl
    · rw [List.getElem?_append_right (by rw [List.length_map]; omega), List.getElem?_replicate] at e
      split at e <;> cases e
/-- the contexts of a def's body -/
def DefF (G : Pr) (N : List Str) (qual : Str) (scope : Scope) (f : Addr) (cdv : Value) (k : Nat) (E : XK) : Fam := fun X => ∃ (A : Around) (outer : List Env) (s : Shared) (H : Hp), X = cxOf (CX G.prog G.w) G.prog G.w G.K G.mg G.base N qual scope f cdv A outer s H E ∧ Room k X.A
abbrev WD (E : XK) : WX := fun c d _ H => E c d H
theorem def_fm {G : Pr} {N ps : List Str} {qual : Str} {scope : Scope} {f : Addr} {cdv : Value} {k : Nat} {E : XK} (S : FnScope N ps scope) : Fm (DefF G N qual scope f cdv k E) G N scope k (WD E) := by
  refine ⟨?_, ?_, ?_, ?_, ?_, ?_, S.nd⟩
  · rintro Y ⟨A, outer, s, H, rfl, _⟩
    rfl
  · rintro Y ⟨A, outer, s, H, rfl, _⟩
    rfl
  · rintro Y ⟨A, outer, s, H, rfl, _⟩
    exact ⟨rfl, rfl, rfl, rfl, rfl⟩
  · rintro Y ⟨A, outer, s, H, rfl, _⟩
    rfl
  · rintro Y ⟨A, outer, s, H, rfl, hr⟩
    exact hr
  · rintro Y ⟨A, outer, s, H, rfl, _⟩
    exact takes_of rfl rfl rfl rfl
theorem def_own {G : Pr} {N : List Str} {qual : Str} {scope : Scope} {f : Addr} {cdv : Value} {k : Nat} {E : XK} : Own (DefF G N qual scope f cdv k E) := by
  rintro Y ⟨A, outer, s, H, rfl, _⟩
  exact passes_of rfl
theorem def_fn {G : Pr} {N : List Str} {qual : Str} {scope : Scope} {f : Addr} {cdv : Value} {k : Nat} {E : XK} {y : Str} : ∀ X, DefF G N qual scope f cdv k E X → X.fn y = true := by
  rintro Y ⟨A, outer, s, H, rfl, _⟩
  rfl
theorem def_code {G : Pr} {N : List Str} {qual : Str} {scope : Scope} {f : Addr} {cdv : Value} {k : Nat} {E : XK} : ∀ X, DefF G N qual scope f cdv k E X → X.env.code = cdv := by
  rintro Y ⟨A, outer, s, H, rfl, _⟩
  rfl
theorem fnok_of {G : Pr} {T : Tb} {k np : Nat} {f : Addr} {name qual : Str} {params : Arguments} {body : List Stmt} {scope : Scope} {dV kV doc pm cdv ct oc : Value} {an od : Option Addr} {osl : Array (Option Value)} {N ps : List Str} {m : Sl → LH → RS}
    (lk : G.K.lookup f = some ⟨oc, od, .func (PySem.W.fnOf name qual params body scope dV kV doc pm an cdv ct), osl⟩) (hcd : PySem.W.codeIn G.K cdv qual = true) (S : FnScope N ps scope) (hp : ps.length = np)
    (hbody : ∀ E : XK, SSs (DefF G N qual scope f cdv k E) T (WD E) body m) : FnOk G.prog G.w G.K G.mg G.base (CX G.prog G.w) (k + 1) f (PySem.W.fnOf name qual params body scope dV kV doc pm an cdv ct) ps (spD T np (fnD N m)) := by
  refine fn_of (N := N) lk hcd S (fun vs H Q E h => h.1.trans hp.symm) (fun A outer s H vs Q E hr h => ?_)
  obtain ⟨hl, μ, L, ds, g, r, q⟩ := h
  obtain ⟨ts, pt, vt⟩ := hbody E
  refine ⟨ts, pt _ ⟨A, outer, s, H, rfl, hr⟩, vt (startE N ds) μ L (L2.start N vs) H _ g (sok_start r) ?_⟩
  unfold fnD at q
  cases e : m (startE N ds) L with
  | rt d L' => simp only [e] at q; exact q
  | nx env L' =>
    simp only [e] at q
    exact fun μ' σ' H' x g' _ => q μ' H' .non x g' rfl
  | exc x env L' =>
    simp only [e] at q
    exact fun μ' σ' H' c d x' g' _ r' => q μ' H' c d x' g' r'
  | bk _ _ => simp only [e] at q; exact q.elim
  | ct _ _ => simp only [e] at q; exact q.elim
  | bad => simp only [e] at q; exact q.elim
end DI
set_option Elab.async false
set_option linter.all false
set_option maxRecDepth 100000
set_option maxHeartbeats 2000000
/-! The operators over a family; a def of the head. -/
namespace DI
open PySem PySem.Spec PyProof.Rows L2 GxR DW GxA
section
variable {Fa : Fam} {G : Pr} {N : List Str} {sc : Scope} {k : Nat} {W : WX}
theorem Fm.u0 (h : Fm Fa G N sc k W) (X : Cx) (hX : Fa X) : X.A.units < cLine := (h.room X hX).units0
theorem Fm.u64 (h : Fm Fa G N sc k W) (X : Cx) (hX : Fa X) : X.A.units + 64 < cLine := (h.room X hX).units
theorem Fm.u65 (h : Fm Fa G N sc k W) (hk : 1 ≤ k) (X : Cx) (hX : Fa X) : X.A.units + 65 < cLine := by
  have := ((h.room X hX).mono hk).un
  omega
theorem o_add (h : Fm Fa G N sc k W) : ∀ X, Fa X → OpR X (binaryOp .Add) (rAddD G.K) := fun X hX => by rw [← (h.g X hX).2.2.1]; exact op_addD
theorem o_sub (h : Fm Fa G N sc k W) : ∀ X, Fa X → OpR X (binaryOp .Sub) (rI0 fun i j => .int (i - j)) := fun X hX => op_sub
theorem o_mul (h : Fm Fa G N sc k W) : ∀ X, Fa X → OpR X (binaryOp .Mult) rMulD := fun X hX => op_mulD
theorem o_fdiv (h : Fm Fa G N sc k W) : ∀ X, Fa X → OpR X (binaryOp .FloorDiv) (rI CDivN fun i j => .int (i.fdiv j)) := fun X hX => op_fdivN
theorem o_mod (h : Fm Fa G N sc k W) : ∀ X, Fa X → OpR X (binaryOp .Mod) (rI (fun _ j => j ≠ 0) fun i j => .int (i.fmod j)) := fun X hX => op_modN
theorem o_pow (h : Fm Fa G N sc k W) : ∀ X, Fa X → OpR X (binaryOp .Pow) (rI CPow fun i j => .int (i ^ j.toNat)) := fun X hX => op_pow
theorem o_shl (h : Fm Fa G N sc k W) : ∀ X, Fa X → OpR X (binaryOp .LShift) (rI CPow fun i j => .int (i * 2 ^ j.toNat)) := fun X hX => op_shl
theorem o_shr (h : Fm Fa G N sc k W) : ∀ X, Fa X → OpR X (binaryOp .RShift) (rI (fun _ j => 0 ≤ j) fun i j => .int (i / 2 ^ j.toNat)) := fun X hX => op_shr
theorem o_and (h : Fm Fa G N sc k W) : ∀ X, Fa X → OpR X (binaryOp .BitAnd) (rI0 fun i j => .int (Builtin.bitAnd i j)) := fun X hX => op_and
theorem o_neg (h : Fm Fa G N sc k W) : ∀ X, Fa X → UnR X (unaryOp .USub) (rU fun i => .int (-i)) := fun X hX => un_neg
theorem o_lt (h : Fm Fa G N sc k W) : ∀ X, Fa X → OpR X (compareOp .Lt) (rLtD G.K) := fun X hX => by rw [← (h.g X hX).2.2.1]; exact op_ltD (h.u0 X hX)
theorem o_le (h : Fm Fa G N sc k W) : ∀ X, Fa X → OpR X (compareOp .LtE) (rI0 fun i j => .bl (decide (i ≤ j))) := fun X hX => op_le
theorem o_gt (h : Fm Fa G N sc k W) : ∀ X, Fa X → OpR X (compareOp .Gt) (rI0 fun i j => .bl (decide (j < i))) := fun X hX => op_gt
theorem o_ge (h : Fm Fa G N sc k W) : ∀ X, Fa X → OpR X (compareOp .GtE) (rI0 fun i j => .bl (decide (j ≤ i))) := fun X hX => op_ge
theorem o_eq (h : Fm Fa G N sc k W) : ∀ X, Fa X → OpR X (compareOp .Eq) (rEqD G.K) := fun X hX => by rw [← (h.g X hX).2.2.1]; exact op_eqD (h.u64 X hX)
theorem o_ne (h : Fm Fa G N sc k W) : ∀ X, Fa X → OpR X (compareOp .NotEq) (rNeD G.K) := fun X hX => by rw [← (h.g X hX).2.2.1]; exact op_neD (h.u64 X hX)
theorem o_in (h : Fm Fa G N sc k W) (hk : 1 ≤ k) : ∀ X, Fa X → OpR X (compareOp .In) (rInA G.K) := fun X hX => by rw [← (h.g X hX).2.2.1]; exact op_inA (h.u65 hk X hX)
theorem o_nin (h : Fm Fa G N sc k W) (hk : 1 ≤ k) : ∀ X, Fa X → OpR X (compareOp .NotIn) (rNinA G.K) := fun X hX => by rw [← (h.g X hX).2.2.1]; exact op_ninA (h.u65 hk X hX)
theorem o_is (h : Fm Fa G N sc k W) : ∀ X, Fa X → OpR X (compareOp .Is) (fun x y H Q => y = .non ∧ Q (.bl (decide (x = .non))) H) := fun X hX => op_isN
theorem o_isn (h : Fm Fa G N sc k W) : ∀ X, Fa X → OpR X (compareOp .IsNot) (fun x y H Q => y = .non ∧ Q (.bl (!decide (x = .non))) H) := fun X hX => op_notN
theorem c_len (h : Fm Fa G N sc k W) : ∀ X, Fa X → CallR X (.builtin "len") (fun xs H Q => ∃ x n, xs = [x] ∧ LenV G.K x H n ∧ Q (.int n) H) := fun X hX => by rw [← (h.g X hX).2.2.1]; exact call_len
theorem c_tuple (h : Fm Fa G N sc k W) : ∀ X, Fa X → CallR X (.type "tuple") (fun xs H Q => ∃ p ys, xs = [.ref p] ∧ ((SqL G.K H p ys ∧ ∀ l, H l = none → Q (.ref l) (upd H l (.tup ys))) ∨ (SqT G.K H p ys ∧ Q (.ref p) H))) := fun X hX => by rw [← (h.g X hX).2.2.1]; exact call_tuple_of
theorem c_list (h : Fm Fa G N sc k W) : ∀ X, Fa X → CallR X (.type "list") (fun xs H Q => ∃ p ys, xs = [.ref p] ∧ (SqL G.K H p ys ∨ SqT G.K H p ys) ∧ ∀ l, H l = none → Q (.ref l) (upd H l (.lst ys))) := fun X hX => by rw [← (h.g X hX).2.2.1]; exact call_list_of
theorem c_int (h : Fm Fa G N sc k W) : ∀ X, Fa X → CallR X (.type "int") (fun xs H Q => (∃ i, xs = [.int i] ∧ Q (.int i) H) ∨ ∃ k, xs = [.bl k] ∧ Q (.int (if k then 1 else 0)) H) := fun X hX => call_int1
theorem c_abs (h : Fm Fa G N sc k W) : ∀ X, Fa X → CallR X (.builtin "abs") (fun xs H Q => ∃ i, xs = [.int i] ∧ Q (.int (if i < 0 then -i else i)) H) := fun X hX => call_abs
theorem c_min (h : Fm Fa G N sc k W) : ∀ X, Fa X → CallR X (.builtin "min") (fun xs H Q => ∃ i j, xs = [.int i, .int j] ∧ Q (.int (if j < i then j else i)) H) := fun X hX => call_min2 (h.calm X hX)
theorem c_max (h : Fm Fa G N sc k W) : ∀ X, Fa X → CallR X (.builtin "max") (fun xs H Q => ∃ i j, xs = [.int i, .int j] ∧ Q (.int (if j > i then j else i)) H) := fun X hX => call_max2 (h.calm X hX)
theorem c_sorted (h : Fm Fa G N sc k W) : ∀ X, Fa X → CallR X (.builtin "sorted") (rSortedI G.K) := fun X hX => by rw [← (h.g X hX).2.2.1]; exact cr_sortedI
theorem c_isi (h : Fm Fa G N sc k W) : ∀ X, Fa X → CallR X (.builtin "isinstance") (rIsi G.K) := fun X hX => by rw [← (h.g X hX).2.2.1]; exact call_isi
end
/-! ### isinstance(x, T), T a built-in type -/
def tyD (L : LH) : D → Option String
  | .int _ => some "int"
  | .bl _ => some "bool"
  | .non => some "NoneType"
  | .str _ => some "str"
  | .tup _ => some "tuple"
  | .ref n => match lstAt L n with
    | some _ => some "list"
    | none => none
  | _ => none
def kitB (t n : String) : Option Bool := match t, n with
  | "int", "int" => some true
  | "int", "bool" => some false
  | "int", "tuple" => some false
  | "int", "str" => some false
  | "int", "list" => some false
  | "bool", "int" => some true
  | "bool", "bool" => some true
  | "bool", "tuple" => some false
  | "tuple", "tuple" => some true
  | "tuple", "int" => some false
  | "tuple", "bool" => some false
  | "tuple", "list" => some false
  | "list", "list" => some true
  | "list", "tuple" => some false
  | "list", "int" => some false
  | "list", "bool" => some false
  | "str", "str" => some true
  | "str", "int" => some false
  | "str", "bool" => some false
  | "str", "tuple" => some false
  | "NoneType", "int" => some false
  | "NoneType", "bool" => some false
  | "NoneType", "tuple" => some false
  | "NoneType", "list" => some false
  | _, _ => none
def isiD : List D → LH → R D
  | [d, .ty n], L => match tyD L d with
    | some t => match kitB t n with
      | some b => .ok (.bl b) L
      | none => .bad
    | none => .bad
  | _, _ => .bad
/-- the word of the library for built-in types, whatever is written -/
def KitOk (K : PySem.W.Frag) : Prop := ∀ t n b, kitB t n = some b → PySem.W.kitOne K (.type t) (.type n) = some b
theorem cas_isi {T : Tb} {K : PySem.W.Frag} (hK : KitOk K) : CaS T (rIsi K) isiD := fun W μ L H xs ds Q g rs h => by
  match ds, rs, h with
  | [d, .ty n], rs, h =>
    obtain ⟨v, w, e, r1, r2⟩ := rps2 rs
    have e2 : w = .ty n := r2
    unfold isiD at h
    cases q : tyD L d with
    | none => simp only [q] at h; exact h.elim
    | some t =>
      simp only [q] at h
      cases q2 : kitB t n with
      | none => simp only [q2] at h; exact h.elim
      | some b =>
        simp only [q2] at h
        subst e2
        refine ⟨v, .ty n, .type t, .type n, b, e, .ty n, .base ?_, hK t n b q2, h μ H _ Xt.refl g rfl⟩
        cases d with
        | int i => cases q; rw [show v = .int i from r1]; exact .int i
        | bl i => cases q; rw [show v = .bl i from r1]; exact .bl i
        | non => cases q; rw [show v = .non from r1]; exact .non
        | str i => cases q; rw [show v = .str i from r1]; exact .str i
        | tup ys =>
          cases q
          obtain ⟨a, vs, ev, ha, _⟩ := r1
          rw [ev]
          exact .tup ha
        | ref m =>
          unfold tyD at q
          cases q3 : lstAt L m with
          | none => simp only [q3] at q; cases q
          | some ys =>
            simp only [q3] at q
            cases q
            rw [r1.2]
            unfold lstAt at q3
            cases q4 : L[m]? with
            | none => rw [q4] at q3; cases q3
            | some c =>
              rw [q4] at q3
              cases c with
              | ins _ _ => cases q3
              | lst mu zs =>
                cases mu with
                | true =>
                  obtain ⟨us, a, _⟩ := g.cel m _ q4
                  exact .lst a
                | false =>
                  obtain ⟨o, us, a, _⟩ := g.cel m _ q4
                  exact .frz a
        | _ => cases q
  | [], _, h => exact h.elim
  | [a], _, h => exact h.elim
  | a :: b :: c :: r, _, h => cases b <;> exact h.elim
  | [a, .int _], _, h => exact h.elim
  | [a, .bl _], _, h => exact h.elim
  | [a, .non], _, h => exact h.elim
  | [a, .str _], _, h => exact h.elim
  | [a, .tup _], _, h => exact h.elim
  | [a, .ref _], _, h => exact h.elim
  | [a, .cls _], _, h => exact h.elim
/-! ### what is known of the program's names -/
structure Hy (frees glos : List Str) (nums : List (Str × Int)) (G : Pr) : Prop where
  free : ∀ x, frees.contains x = true → G.mg x = none
  glo : ∀ x, glos.contains x = true → G.mg x = some (.ref (He.ga G.K x)) ∧ PySem.W.keepIn G.K (.ref (He.ga G.K x)) = true
  int : ∀ x n, nums.contains (x, n) = true → ∃ t, G.mg x = some (.int n t)
  kit : KitOk G.K
theorem se_gi {Fa : Fam} {G : Pr} {N : List Str} {sc : Scope} {k : Nat} {W : WX} {T : Tb} {x : Str} {pos : Pos} {n : Int} (h : Fm Fa G N sc k W) (hg : isGlo sc x = true) (hm : ∃ t, G.mg x = some (.int n t)) (hd : (x == ("__debug__" : Str)) = false) : SE Fa T W (.Name x pos) (eK (.int n)) := by
  obtain ⟨t, e⟩ := hm
  exact se_gint h hg e hd
/-- an __init__ of the class at D that begins with super().__init__(..) -/
def fnS (D : Addr) (N : List Str) (F0 : Fn) (np0 : Nat) (a : Sl → LH → R (List DI.D)) (m : Sl → LH → RS) : Fn := fun ds L => match ds with
  | .ref n :: _ => match insAt L n with
    | some (C, _) => if C = D then (noX (a (startE N ds) L)).bind fun es L1 => if es.length + 1 = np0 then (noX (F0 (.ref n :: es) L1)).bind fun _ L2 => noX (fnD N m ds L2) else .bad else .bad
    | none => .bad
  | _ => .bad
/-! ### a def of the head -/
theorem fnok_D {G : Pr} {T : Tb} {k np : Nat} {d : He.DefD} {N ps : List Str} {m : Sl → LH → RS} {fd : FuncData} (F : FunD G.K d.name d.qual d.params d.body d.scope [] [] (He.fAd G.K d.at_) fd) (S : FnScope N ps d.scope) (hp : ps.length = np)
    (hbody : ∀ E : XK, SSs (DefF G N d.qual d.scope (He.fAd G.K d.at_) (.ref (He.codeOf G.K d.at_)) k E) T (WD E) d.body m) : FnOk G.prog G.w G.K G.mg G.base (CX G.prog G.w) (k + 1) (He.fAd G.K d.at_) fd ps (spD T np (fnD N m)) := by
  obtain ⟨oc, od, dV, kV, doc, pm, an, cdv, ct, osl, e, lk, hcd, _, _⟩ := F.ex
  subst e
  obtain ⟨c, ec⟩ := He.codeIn_ref hcd
  have e2 : He.codeOf G.K d.at_ = c := He.codeOf_eq lk ec
  subst ec
  rw [← e2] at lk hcd ⊢
  exact fnok_of lk hcd S hp hbody
theorem fok_D {G : Pr} {T : Tb} {k np : Nat} {d : He.DefD} {N ps : List Str} {m : Sl → LH → RS} {fd : FuncData} (F : FunD G.K d.name d.qual d.params d.body d.scope [] [] (He.fAd G.K d.at_) fd) (S : FnScope N ps d.scope) (hp : ps.length = np)
    (hb : Binds G.K fd ps [])
    (hbody : ∀ E : XK, SSs (DefF G N d.qual d.scope (He.fAd G.K d.at_) (.ref (He.codeOf G.K d.at_)) k E) T (WD E) d.body m) : FG G T (k + 1) (He.fAd G.K d.at_) np (fnD N m) := ⟨fd, ps, hp, fnok_D F S hp hbody, hb⟩
theorem FOk.fnR {P : Program} {w : World} {K : PySem.W.Frag} {mg : Str → Option Value} {base : Heap} {T : Tb} {k np : Nat} {f : Addr} {F : Fn} (h : FOk P w K mg base T k f np F) : FnR P w K mg base (CX P w) k f (spD T np F) := fun A outer s H us vs Q E hr e0 r hs => by
  obtain ⟨fd, ps, e, b, c⟩ := h.fn
  have hl : us.length = ps.length := by rw [← r.length, b.len _ _ _ _ hs]
  have KX : K.In s.heap := e0.mod.kin.keeps fun b o e => (e0.bs b o e).1
  have bb := c s us KX (by rw [List.append_nil]; exact hl)
  rw [List.append_nil] at bb
  exact b.run A outer s H ⟨us, []⟩ us vs Q E hr e0 bb r hs
/-! ### an __init__ that begins with super().__init__(..), an own class behind it -/
def SupF (G : Pr) (N : List Str) (qual : Str) (scope : Scope) (f cda cc : Addr) (k : Nat) : Fam := fun X => ∃ (A : Around) (outer : List Env) (s : Shared) (H : Hp) (E : XK), X = SupX.supCx (CX G.prog G.w) G.prog G.w G.K G.mg G.base N qual scope f cda cc A outer s H E ∧ Room k X.A
theorem sup_fm {G : Pr} {N ps : List Str} {qual : Str} {scope : Scope} {f cda cc : Addr} {k : Nat} (S : SupX.SScope N ps scope) : Fm (SupF G N qual scope f cda cc k) G N scope k WF := by
  refine ⟨?_, ?_, ?_, ?_, ?_, fun X _ => takes_none5, S.nd⟩
  · rintro Y ⟨A, outer, s, H, E, rfl, _⟩
    rfl
  · rintro Y ⟨A, outer, s, H, E, rfl, _⟩
    rfl
  · rintro Y ⟨A, outer, s, H, E, rfl, _⟩
    exact ⟨rfl, rfl, rfl, rfl, rfl⟩
  · rintro Y ⟨A, outer, s, H, E, rfl, _⟩
    rfl
  · rintro Y ⟨A, outer, s, H, E, rfl, hr⟩
    exact hr
theorem sup_own {G : Pr} {N : List Str} {qual : Str} {scope : Scope} {f cda cc : Addr} {k : Nat} : Own (SupF G N qual scope f cda cc k) := by
  rintro Y ⟨A, outer, s, H, E, rfl, _⟩
  exact fun _ _ z => z.elim
theorem CX_no {P : Program} {w : World} : ∀ (l : List Env) (H : Hp) (s : Shared) (e : Value) (s' : Shared), ¬ CX P w l H s (fun _ _ _ => False) e s' := fun l H s e s' ⟨_, _, _, _, _, _, _, _, _, _, _, _, z⟩ => z
end DI
set_option Elab.async false
set_option linter.all false
set_option maxRecDepth 100000
set_option maxHeartbeats 2000000
/-! Inits with super; what the head tells, for all names at once; the end. -/
namespace DI
open PySem PySem.Spec PyProof.Rows L2 GxR DW GxA
theorem start_at {N : List Str} {v : V} {vs : List V} : (L2.start N (v :: vs))[0]? = some (some v) := rfl
theorem fok_sup {G : Pr} {T : Tb} {k j np np0 : Nat} {f f2 cda cc C : Addr} {qual : Str} {params : Arguments} {e : Expr} {es : List Expr} {rest : List Stmt} {p0 p1 p2 p3 p4 : Pos} {scope : Scope} {fd : FuncData} {N ps : List Str} {F0 : Fn} {a : Sl → LH → R (List D)} {m : Sl → LH → RS}
    (S : SupX.SScope N ps scope) (hN : N[0]? = some ("self" : Str)) (hp : ("self" : Str) ∈ ps) (hnp : ps.length = np)
    (TT : SupX.SupT G.prog G.K G.mg C cc cda f qual params (.Expr (.Call (.Attribute (.Call (.Name "super" p0) [] [] p1) "__init__" p2) (e :: es) [] p3) p4 :: rest) scope fd)
    (hm : PySem.W.ks_superIn G.K C C "__init__" = some (some (.ref f2))) (ht : PySem.W.typeIn G.K (.ref f2) = some (.type "function")) (hfi : PySem.W.fnIn G.K f2 = true) (F2 : FG G T j f2 np0 F0) (hj : j ≤ k)
    (hb : ∀ (kV doc pm cdv ct : Value) (an : Option Addr) (us : List Value), us.length = ps.length → bindArgs (PySem.W.ksFn "__init__" qual params (.Expr (.Call (.Attribute (.Call (.Name "super" p0) [] [] p1) "__init__" p2) (e :: es) [] p3) p4 :: rest) scope .none kV doc pm an cdv ct cc) ⟨us, []⟩ = pure (ps.zip us))
    (ha : SA (SupF G N qual scope f cda cc k) T WF (e :: es) a) (hr : SSs (SupF G N qual scope f cda cc k) T WF rest m)
    (hst : ∀ env : Env, starEach (e :: es) env = (false, eval e env) :: starEach es env) (hpl2 : ∀ env : Env, (backTo p3 (starEach es env)).any (·.1) = false)
    (hpl : ∀ env : Env, eval (.Call (.Attribute (.Call (.Name "super" p0) [] [] p1) "__init__" p2) (e :: es) [] p3) env = (do
      let ov ← attributeBase (.Call (.Name "super" p0) [] [] p1) "__init__" env (eval (.Call (.Name "super" p0) [] [] p1) env)
      standAt p2.atName
      let (f, first) ← holding [ov] (getMethod ov "__init__" (pure false))
      callWith p3 f first (backTo p3 (starEach (e :: es) env)) []))
    (hsw : ∀ env : Env, swapsWith (.Call (.Attribute (.Call (.Name "super" p0) [] [] p1) "__init__" p2) (e :: es) [] p3) none p4.line env = pure false) : FG G T (k + 1) f np (fnS C N F0 np0 a m) := by
  obtain ⟨ta, pa, va⟩ := ha
  obtain ⟨tr, pr, vr⟩ := hr
  have bnd : Binds G.K fd ps [] := by
    obtain ⟨oc, od, kV, doc, pm, an, ct, osl, efd, _⟩ := TT.fn
    rw [efd]
    exact Binds.all fun us hl => hb kV doc pm _ ct an us hl
  refine ⟨fd, ps, hnp, SupX.fn_supD (pl := pure false) (CX := CX G.prog G.w) (CX2 := CX G.prog G.w) S hN hp TT hm ht hfi (FOk.fnR F2) hj (fun l H s e s' => CX_no l H s e s') (fun vs H Q E h => h.1.trans hnp.symm) (fun A outer s H vs Q E hroom h => ?_) hst hpl2 hpl hsw, bnd⟩
  obtain ⟨hl, μ, L, ds, g, r, q⟩ := h
  have mem : SupF G N qual scope f cda cc k (SupX.supCx (CX G.prog G.w) G.prog G.w G.K G.mg G.base N qual scope f cda cc A outer s H E) := ⟨A, outer, s, H, E, rfl, hroom⟩
  unfold fnS at q
  cases ds with
  | nil => exact q.elim
  | cons d dr =>
    cases d with
    | ref n =>
      simp only at q
      cases e1 : insAt L n with
      | none => simp only [e1] at q; exact q.elim
      | some z =>
        obtain ⟨C', fs⟩ := z
        simp only [e1] at q
        by_cases hc : C' = C
        · subst hc
          simp only [if_true] at q
          obtain ⟨dx, fvs, hi, rf⟩ := ins_at g e1
          have r0 := r
          obtain ⟨v, ws, ev, r1, r2⟩ := r
          have r1 : n < L.length ∧ v = .ref (μ n) := r1
          rw [r1.2] at ev
          subst ev
          refine ⟨μ n, dx, fvs, ta, tr, start_at, hi, pa _ mem, pr _ mem, ?_⟩
          refine va (startE N (.ref n :: dr)) μ L (L2.start N (.ref (μ n) :: ws)) H _ g (sok_start r0) (fin_noX (W1 := fun _ _ _ => False) ?_)
          have q' : Fin Rp T (fun _ _ _ => False) μ L.length H ((noX (a (startE N (.ref n :: dr)) L)).bind fun es L1 => if es.length + 1 = np0 then (noX (F0 (.ref n :: es) L1)).bind fun _ L2 => noX (fnD N m (.ref n :: dr) L2) else .bad) Q := by
            cases e2 : a (startE N (.ref n :: dr)) L with
            | bad => simp only [e2, noX, R.bind] at q; exact q.elim
            | exc x L' => simp only [e2, noX, R.bind] at q; exact q.elim
            | ok es' L1 =>
              simp only [e2, noX, R.bind] at q ⊢
              by_cases c : es'.length + 1 = np0
              · rw [if_pos c] at q ⊢
                cases e3 : F0 (.ref n :: es') L1 with
                | bad => simp only [e3] at q; exact q.elim
                | exc x L' => simp only [e3] at q; exact q.elim
                | ok u L2 =>
                  simp only [e3] at q ⊢
                  cases e4 : fnD N m (.ref n :: dr) L2 with
                  | bad => simp only [e4] at q; exact q.elim
                  | exc x L' => simp only [e4] at q; exact q.elim
                  | ok u' L3 => simp only [e4] at q ⊢; exact q
              · rw [if_neg c] at q
                exact q.elim
          refine Fin.bind q' fun μ1 L1 H1 es' xs x1 g1 r3 h1 => ?_
          by_cases c : es'.length + 1 = np0
          · rw [if_pos c] at h1
            refine ⟨by rw [List.length_cons, r3.length]; exact c, μ1, L1, .ref n :: es', g1, ⟨.ref (μ n), xs, rfl, ⟨Nat.lt_of_lt_of_le r1.1 x1.le, by rw [x1.mu n r1.1]⟩, r3⟩, fin_noX (W1 := fun _ _ _ => False) (Fin.bind h1 fun μ2 Lb H2 u uv x2 g2 _ h2 => ?_)⟩
            refine vr (startE N (.ref n :: dr)) μ2 Lb (L2.start N (.ref (μ n) :: ws)) H2 _ g2 ((sok_start r0).mono (x1.trans x2)) ?_
            unfold fnD at h2
            cases e5 : m (startE N (.ref n :: dr)) Lb with
            | rt d' L3 => simp only [e5, noX] at h2; exact h2
            | nx env L3 =>
              simp only [e5, noX] at h2
              exact fun μ' σ' H' x g' _ => h2 μ' H' .non x g' rfl
            | exc _ _ _ => simp only [e5, noX] at h2; exact h2.elim
            | bk _ _ => simp only [e5, noX] at h2; exact h2.elim
            | ct _ _ => simp only [e5, noX] at h2; exact h2.elim
            | bad => simp only [e5, noX] at h2; exact h2.elim
          · rw [if_neg c] at h1
            exact h1.elim
        · simp only [if_neg hc] at q
          exact q.elim
    | _ => exact q.elim
/-! ### what the head tells, for all names at once -/
def isFree (x : Str) : He.Fa → Bool
  | .free y => decide (y = x)
  | _ => false
def isGloF (x : Str) : He.Fa → Bool
  | .glo y => decide (y = x)
  | _ => false
def isMkr (x : Str) : He.Fa → Bool
  | .mkr y => decide (y = x)
  | _ => false
def isCls (x : Str) : He.Fa → Bool
  | .cls y => decide (y = x)
  | _ => false
def isNoat (x f : Str) : He.Fa → Bool
  | .noat y g => decide (y = x) && decide (g = f)
  | _ => false
def isMeth (x f : Str) : He.Fa → Bool
  | .meth y g => decide (y = x) && decide (g = f)
  | _ => false
def isInt (x : Str) (n : Int) : He.Fa → Bool
  | .int y m => decide (y = x) && decide (m = n)
  | _ => false
theorem kit_ok (K : PySem.W.Frag) : KitOk K := fun t n b h => by
  unfold kitB at h
  split at h <;> first | (cases h; kernel_rfl) | (cases h)
section
variable {fa : List He.Fa} {fn : List He.DefD} {K : PySem.W.Frag} {h : Heap} {mg : Str → Option Value}
theorem fact_of (c : He.SaysD fa fn K) {p : He.Fa → Bool} (hp : fa.any p = true) : ∃ f, p f = true ∧ f.ok K = true := by
  obtain ⟨f, hf, e⟩ := List.any_eq_true.mp hp
  exact ⟨f, e, c.facts hf⟩
theorem glo_is (c : He.SaysD fa fn K) (X : K.In h) (Gn : h.Ns mainGlobals mg) {x : Str} (hp : fa.any (isGloF x) = true) : mg x = some (.ref (He.ga K x)) := by
  obtain ⟨f, e, o⟩ := fact_of c hp
  cases f with
  | glo y =>
    have e : y = x := of_decide_eq_true e
    subst e
    exact He.glo_ok X Gn o
  | _ => cases e
theorem free_is (c : He.SaysD fa fn K) (X : K.In h) (Gn : h.Ns mainGlobals mg) {x : Str} (hp : fa.any (isFree x) = true) : mg x = none := by
  obtain ⟨f, e, o⟩ := fact_of c hp
  cases f with
  | free y =>
    have e : y = x := of_decide_eq_true e
    subst e
    exact He.free_ok X Gn o
  | _ => cases e
theorem mk_is (c : He.SaysD fa fn K) {x : Str} (hp : fa.any (isMkr x) = true) : Mk K (He.ga K x) (He.ma K (He.ga K x) "__init__") := by
  obtain ⟨f, e, o⟩ := fact_of c hp
  cases f with
  | mkr y =>
    have e : y = x := of_decide_eq_true e
    subst e
    exact He.mkr_ok o
  | _ => cases e
theorem cls_is (c : He.SaysD fa fn K) {x : Str} (hp : fa.any (isCls x) = true) : Cls K (He.ga K x) := by
  obtain ⟨f, e, o⟩ := fact_of c hp
  cases f with
  | cls y =>
    have e : y = x := of_decide_eq_true e
    subst e
    exact He.cls_ok o
  | _ => cases e
theorem noat_is (c : He.SaysD fa fn K) {x g : Str} (hp : fa.any (isNoat x g) = true) : NoAttr K (He.ga K x) g := by
  obtain ⟨f, e, o⟩ := fact_of c hp
  cases f with
  | noat y z =>
    have e := He.ba e
    have e1 : y = x := of_decide_eq_true e.1
    have e2 : z = g := of_decide_eq_true e.2
    subst e1 e2
    exact He.noat_ok o
  | _ => cases e
theorem meth_is (c : He.SaysD fa fn K) {x g : Str} (hp : fa.any (isMeth x g) = true) : Meth K (He.ga K x) g (He.ma K (He.ga K x) g) := by
  obtain ⟨f, e, o⟩ := fact_of c hp
  cases f with
  | meth y z =>
    have e := He.ba e
    have e1 : y = x := of_decide_eq_true e.1
    have e2 : z = g := of_decide_eq_true e.2
    subst e1 e2
    exact He.meth_ok o
  | _ => cases e
theorem int_is (c : He.SaysD fa fn K) (X : K.In h) (Gn : h.Ns mainGlobals mg) {x : Str} {n : Int} (hp : fa.any (isInt x n) = true) : ∃ t, mg x = some (.int n t) := by
  obtain ⟨f, e, o⟩ := fact_of c hp
  cases f with
  | int y z =>
    have e := He.ba e
    have e1 : y = x := of_decide_eq_true e.1
    have e2 : z = n := of_decide_eq_true e.2
    subst e1 e2
    exact He.int_ok X Gn o
  | _ => cases e
def isDef (x : Str) (d : He.DefD) : Bool := decide (d.at_ = (x, none))
theorem hy_of {P : Program} {w : World} {base : Heap} {frees glos : List Str} {nums : List (Str × Int)} (c : He.SaysD fa fn K) (X : K.In h) (Gn : h.Ns mainGlobals mg) (h1 : (frees.all fun x => fa.any (isFree x)) = true) (h2 : (glos.all fun x => fa.any (isGloF x) && (fn.any (isDef x) || fa.any (isMkr x))) = true)
    (h3 : (nums.all fun p => fa.any (isInt p.1 p.2)) = true) : Hy frees glos nums ⟨P, w, K, mg, base⟩ := by
  refine ⟨fun x hx => ?_, fun x hx => ?_, fun x n hx => ?_, kit_ok K⟩
  · exact free_is c X Gn (List.all_eq_true.mp h1 x (by simpa using hx))
  · have q := He.ba (List.all_eq_true.mp h2 x (by simpa using hx))
    refine ⟨glo_is c X Gn q.1, ?_⟩
    rcases Bool.or_eq_true_iff.mp q.2 with q | q
    · obtain ⟨d, hd, e⟩ := List.any_eq_true.mp q
      have e : d.at_ = (x, none) := of_decide_eq_true e
      obtain ⟨fd, F⟩ := c.defs hd
      have := F.kp
      rw [e] at this
      exact this
    · exact (mk_is c q).kp
  · exact int_is c X Gn (List.all_eq_true.mp h3 (x, n) (by simpa using hx))
/-- the attributes of the classes -/
def cfL (l : List (Str × List Str)) (K : PySem.W.Frag) (C : Addr) (f : Str) : Bool := l.any fun p => decide (C = He.ga K p.1) && p.2.contains f
theorem aok_of {l : List (Str × List Str)} (c : He.SaysD fa fn K) (h1 : (l.all fun p => fa.any (isCls p.1) && p.2.all fun f => fa.any (isNoat p.1 f)) = true) : AOk K (cfL l K) := fun C f e => by
  obtain ⟨p, hp, e2⟩ := List.any_eq_true.mp e
  have e3 := He.ba e2
  have eC : C = He.ga K p.1 := of_decide_eq_true e3.1
  have q := He.ba (List.all_eq_true.mp h1 p hp)
  subst eC
  exact ⟨cls_is c q.1, noat_is c (List.all_eq_true.mp q.2 f (by simpa using e3.2))⟩
theorem cd_of {P : Program} {w : World} {base : Heap} {tf : List He.Defn} {p : He.Defn} {N : List Str} {qual : Str} {scope : Scope} {f : Addr} {k : Nat} {E : XK} (hp : p ∈ tf) (TB : ∀ q ∈ tf.map (He.cT K), GxR.TabB base mg q.1 q.2) :
    CdOk (DefF ⟨P, w, K, mg, base⟩ N qual scope f (.ref (He.codeOf K p)) k E) ⟨P, w, K, mg, base⟩ ((tf.map (He.cT K)).map (·.2)) (He.codeOf K p) (He.tabOf K (He.codeOf K p)) :=
  ⟨List.mem_map.mpr ⟨He.cT K p, List.mem_map.mpr ⟨p, hp, rfl⟩, rfl⟩, TB _ (List.mem_map.mpr ⟨p, hp, rfl⟩), fun X hX => def_code X hX⟩
end
/-! ### the end -/
theorem lawAt_of {l : PySem.W.OpenLaw} {w : World} {K : PySem.W.Frag} {mg : Str → Option Value} {h : Heap} {n k : Nat} {fa : Addr} {cs : List (Addr × Addr)} {F : Fn} (X : K.In h) (nl : ∀ a o, K.lookup a = some o → o.cls ≠ .type "list")
    (hT : ∀ p ∈ cs, h.get? p.2 = some { cls := .none, data := .fields #[] }) (nT : ∀ p ∈ cs, K.lookup p.2 = none) (C : ∀ p ∈ cs, PySem.W.CodeHd h p.1 p.2) {fd : FuncData} {x : Str} (hb : ∀ (s : Shared) (u : Value), BindsTo s fd ⟨[u], []⟩ [(x, u)])
    (hF : ∀ base : Heap, K.In base → base.Ns mainGlobals mg → (∀ p ∈ cs, LamX.TabB base mg p.1 p.2) → FnOk l.prog w K mg base (CX l.prog w) k fa fd [x] (spD (cs.map (·.2)) 1 F))
    (math : ∀ (b : Bool) (ns : List Int), ns.length ≤ n → (∀ z ∈ ns, Builtin.Int.intBits z ≤ 1048576) → ∃ L', F [.ref 0] [.lst b (ns.map D.int)] = .ok (.bl true) L') : LamX.LawAtS l w K (CX l.prog w) k n x mg fa h := by
  refine ⟨fd, cs, spD (cs.map (·.2)) 1 F, hT, nT, C, hb, fun H a ns hl hbits hH hS => ?_, hF⟩
  have key : ∀ b : Bool, COk (fun _ => a) 1 H a (.lst b (ns.map D.int)) → spD (cs.map (·.2)) 1 F [.ref a] H (fun v _ => v = .bl true) fun _ _ _ => False := fun b hc => by
    obtain ⟨L', e⟩ := math b ns hl hbits
    refine ⟨rfl, fun _ => a, [.lst b (ns.map D.int)], [.ref 0], ⟨fun i j hi hj _ => ?_, fun i c e => ?_, fun P hP => ?_⟩, ⟨.ref a, [], rfl, ⟨Nat.lt_succ_self 0, rfl⟩, rfl⟩, ?_⟩
    · have h1 : i < 1 := hi
      have h2 : j < 1 := hj
      omega
    · cases i with
      | zero => cases e; exact hc
      | succ i => cases e
    · obtain ⟨p, hp, ep⟩ := List.mem_map.mp hP
      rw [← ep]
      exact ⟨#[], hH p hp, trivial⟩
    · rw [e]
      exact fun μ' H' v _ _ r => r
  rcases hS with (hS | ⟨o, hS⟩) | ⟨o, its, m, hk, hc, _⟩
  · exact key true ⟨_, hS, rps_ints ns⟩
  · exact key false ⟨o, _, hS, rps_ints ns⟩
  · exact (nl a o hk hc).elim
end DI
set_option Elab.async false
set_option linter.all false
set_option maxRecDepth 100000
set_option maxHeartbeats 4000000
/-! sorted(xs), xs tuples of ints. -/
namespace DI
open PySem PySem.Spec PyProof.Rows L2 GxR
/-! ### the order of two tuples of ints -/
def TupI (h : Heap) (v : Value) (ns : List Int) : Prop := ∃ (a : Addr) (o : Obj) (items : Array Value) (n : Nat), v = .ref a ∧ h.get? a = some o ∧ o.cls = .type "tuple" ∧ o.data = .seq items n ∧ IntsAre items.toList ns
theorem TupI.keeps {h h' : Heap} {v : Value} {ns : List Int} (p : TupI h v ns) (k : ∀ b o, h.get? b = some o → o.cls = .type "tuple" → h'.get? b = some o) : TupI h' v ns := by
  obtain ⟨a, o, items, n, e, ho, hc, hd, hi⟩ := p
  exact ⟨a, o, items, n, e, k _ _ ho hc, hc, hd, hi⟩
section
variable {prog : Program} {w : World} {A : Around} {E : Value → Shared → Prop} {s : Shared}
theorem ti_lex {b fin : Bool} {Q : Bool → Shared → Prop} : ∀ {ps qs : List Value} {as bs : List Int} (i : Nat), IntsAre ps as → IntsAre qs bs → fin = decide (ps.length < qs.length) → Q (HT.lexLt as bs) s → PySem.W.KatLex prog w A b fin Q (ps.zip qs) i s
  | _, _, _, _, i, .nil, .nil, hf, h => by
    have e : fin = false := by rw [hf]; rfl
    subst e
    exact PySem.W.kat_nil h
  | _, _, _, _, i, .nil, .cons m u r, hf, h => by
    have e : fin = true := by rw [hf]; exact decide_eq_true (Nat.succ_pos _)
    subst e
    exact PySem.W.kat_nil h
  | _, _, _, _, i, .cons n t r, .nil, hf, h => by
    have e : fin = false := by rw [hf]; exact decide_eq_false (Nat.not_lt_zero _)
    subst e
    exact PySem.W.kat_nil h
  | _, _, _, _, i, .cons n t r, .cons m u r', hf, h => by
    rw [HT.lexLt_cons] at h
    refine PySem.W.kat_cons (SeqAt.EqAt.int_int n t m u prog w _ _ ?_)
    refine PySem.W.kat_go (fun e1 => ?_) (fun e1 => ?_)
    · have ex : n = m := by simpa using e1
      rw [if_pos ex] at h
      exact PySem.W.kat_yes (ti_lex (i + 1) r r' (by rw [hf]; simp only [List.length_cons, Nat.add_lt_add_iff_right]) h)
    · have ex : ¬ n = m := by simpa using e1
      rw [if_neg ex] at h
      exact PySem.W.kat_no (PyProof.Rows.oneLt_any_int h)
theorem ti_cmp {vs : List Value} {k : Value → List Int} (hp : ∀ v ∈ vs, TupI s.heap v (k v)) : SrtO.Cmp prog w A s (tuples' true) (fun p => p.1 ∈ vs) (SrtO.lt2 fun v u => HT.lexLt (k v) (k u)) := by
  intro p q hm hm'
  have h1 := hp _ hm
  have h2 := hp _ hm'
  show wpAny (model prog w) A (keyLt' (tuples' true) p.1 q.1) (fun r s' => s' = s ∧ r = HT.lexLt (k p.1) (k q.1)) (fun _ _ => False) s
  obtain ⟨a, o, its, n, e, ho, hc, hd, hi⟩ := h1
  obtain ⟨a', o', its', n', e', ho', hc', hd', hi'⟩ := h2
  rw [e, e']
  rw [e] at hi
  rw [e'] at hi'
  exact PySem.W.kat_lt ho hd ho' hd' (ti_lex 0 hi hi' (by rw [Array.length_toList, Array.length_toList]) ⟨rfl, rfl⟩)
theorem ti_firsts {h : Heap} {k : Value → List Int} : ∀ {vs : List Value}, (∀ v ∈ vs, TupI h v (k v) ∧ k v ≠ []) → ∃ fs, PySem.W.KatTups h vs fs ∧ fs.length = vs.length ∧ ∀ f ∈ fs, ∃ x t, f = Value.int x t
  | [], _ => ⟨[], PySem.W.KatTups.nil, rfl, fun _ h => absurd h (by simp)⟩
  | v :: vs, hp => by
    obtain ⟨fs, h1, h2, h3⟩ := ti_firsts (vs := vs) fun u hu => hp u (List.mem_cons_of_mem _ hu)
    obtain ⟨⟨a, o, its, n, e, ho, hc, hd, hi⟩, hn⟩ := hp v List.mem_cons_self
    revert hi hn
    generalize k v = ks
    intro hn hi
    cases its with
    | mk l =>
      have hi' : IntsAre l ks := hi
      cases hi' with
      | nil => exact (hn rfl).elim
      | cons x t r =>
        subst e
        refine ⟨.int x t :: fs, PySem.W.KatTups.cons ho hc hd rfl h1, by rw [List.length_cons, List.length_cons, h2], fun f hf => ?_⟩
        rcases List.mem_cons.mp hf with q | q
        · exact ⟨x, t, q⟩
        · exact h3 f q
theorem ti_sortable {a : Addr} {vs : List Value} {k : Value → List Int} (h0 : 0 < vs.length) (hp : ∀ v ∈ vs, TupI s.heap v (k v) ∧ k v ≠ []) (ha : ∀ o, s.heap.get? a = some o → o.cls ≠ .type "tuple") : SrtO.SortableO prog w A s a vs fun v u => HT.lexLt (k v) (k u) := by
  intro h' keep
  have hp' : ∀ v ∈ vs, TupI h' v (k v) ∧ k v ≠ [] := fun v hm => ⟨(hp v hm).1.keeps fun b o e c => keep b o (fun z => by subst z; exact ha o e c) e, (hp v hm).2⟩
  obtain ⟨fs, h1, h2, h3⟩ := ti_firsts hp'
  refine ⟨tuples' true, fun Q E hq => ?_, ti_cmp (s := { s with heap := h' }) fun v hv => (hp' v hv).1⟩
  refine PySem.W.kat_kind (T := .type "int") h1 (by omega) (fun f hm => ?_) (by rfl) ?_
  · obtain ⟨x, t, rfl⟩ := h3 f hm
    exact PySem.W.Looks.now
  · have e : (Value.type "int" != Value.type "tuple") = true := by first | decide +kernel | rfl | decide
    rw [e]
    exact hq
end
/-- sorted(xs), tuples of ints: none of them empty, or fewer than two -/
def rSortedTI (K : PySem.W.Frag) : List V → Hp → VK → Prop := fun vs H Q => ∃ (a : Addr) (ts : List Addr) (k : Addr → List Int), vs = [V.ref a] ∧ SqL K H a (ts.map V.ref) ∧ (∀ t ∈ ts, H t = some (.tup ((k t).map V.int))) ∧
  (ts.length < 2 ∨ ∀ t ∈ ts, k t ≠ []) ∧ ∀ (ts' : List Addr) (p : Addr), ts'.Perm ts → ts'.Pairwise (fun p q => HT.lexLt (k q) (k p) = false) → H p = none → Q (.ref p) (upd H p (.lst (ts'.map V.ref)))
theorem cr_sortedTI {X : Cx} : CallR X (.builtin "sorted") (rSortedTI X.K) := by
  intro pins s σ H vs us Q I r h
  obtain ⟨a, ts, k, rfl, hs, ht, hne, q⟩ := h
  obtain ⟨its, rv, hl, hz⟩ := I.list hs
  rw [Vals.ref1 r]
  have ei := nts_of rv
  have hzs : its.length ≤ sizeLine := by rw [← rv.length]; exact hz
  have hp : ∀ v ∈ its, TupI s.heap v (k (adO v)) ∧ (k (adO v) ≠ [] ∨ its.length < 2) := fun v hv => by
    have hv' := hv
    rw [ei] at hv'
    obtain ⟨t, hm, rfl⟩ := List.mem_map.mp hv'
    obtain ⟨_, its2, r2, o, ho, hc, n, hd⟩ := I.hok _ _ (ht t hm)
    refine ⟨⟨t, o, its2.toArray, n, rfl, ho, hc, hd, r2.ints⟩, ?_⟩
    rcases hne with z | z
    · exact .inr (by rw [ei, List.length_map]; exact z)
    · exact .inl (z t hm)
  refine SrtO.sorted_ord (NtL.swo_lexL fun u => k (adO u)) hl.isList hzs (fun h2 h₁ a' ha kk => ?_) fun out h1 h2 => ?_
  · refine ti_sortable (s := { s with heap := h₁ }) (by omega) (fun v hm => ⟨(hp v hm).1.keeps fun b o e _ => (kk b o e).2, (hp v hm).2.resolve_right (by omega)⟩) fun o e => ?_
    have e' : some o = some (seqObj "list" its.toArray 0) := e.symm.trans ha
    cases e'
    intro c
    exact absurd (Value.type.inj c) (by decide)
  · have h3 : ∀ u ∈ out, ∃ t, u = Value.ref t := fun u hu => by
      have hu' := h2.perm.mem_iff.mp hu
      rw [ei] at hu'
      obtain ⟨t, _, rfl⟩ := List.mem_map.mp hu'
      exact ⟨t, rfl⟩
    have eo := ref_map h3
    obtain ⟨ep, he'⟩ := PyProof.Rows.sortedAll_at s.heap its out.toArray
    have hpm : (out.map adO).Perm ts := by
      have z := h2.perm.map adO
      rw [ei, ad_map] at z
      exact z
    have hlen : ((out.map adO).map V.ref).length ≤ sizeLine := by
      rw [List.length_map, hpm.length_eq]
      rw [List.length_map] at hz
      exact hz
    refine ⟨.ref _, upd H (s.heap.objs.size + 1) (.lst ((out.map adO).map V.ref)), I.laid (t' := s.toks) (fun _ _ => PyProof.Rows.sortedAll_old) (Nat.le_succ _) ⟨hlen, out, ep, ?_, he'⟩, rfl, q _ _ hpm (List.pairwise_map.mpr (h1.imp fun {x y} z => z)) (I.hok.fresh (Nat.le_succ _))⟩
    have z := of_nts (out.map adO)
    rw [← eo] at z
    exact z
/-! ### on data -/
def insL (x : List Int) : List (List Int) → List (List Int)
  | [] => [x]
  | y :: ys => if HT.lexLt y x = true then y :: insL x ys else x :: y :: ys
def sortL : List (List Int) → List (List Int)
  | [] => []
  | x :: xs => insL x (sortL xs)
theorem insL_perm (x : List Int) : ∀ ys : List (List Int), (insL x ys).Perm (x :: ys)
  | [] => .refl _
  | y :: ys => by
    unfold insL
    split
    · exact ((insL_perm x ys).cons y).trans (.swap x y ys)
    · exact .refl _
theorem sortL_perm : ∀ xs : List (List Int), (sortL xs).Perm xs
  | [] => .refl _
  | x :: xs => (insL_perm x _).trans ((sortL_perm xs).cons x)
/-- x stands before y, or they are the same -/
def lexLe (x y : List Int) : Prop := HT.lexLt y x = false
theorem lexLe_tr {x y z : List Int} (h1 : lexLe x y) (h2 : lexLe y z) : lexLe x z := NtL.lex_tr x y z h1 h2
theorem lexLe_anti : ∀ {x y : List Int}, lexLe x y → lexLe y x → x = y
  | [], [], _, _ => rfl
  | [], y :: ys, h1, h2 => by cases h2
  | x :: xs, [], h1, h2 => by cases h1
  | x :: xs, y :: ys, h1, h2 => by
    unfold lexLe at h1 h2
    rw [HT.lexLt_cons] at h1 h2
    by_cases e : x = y
    · rw [if_pos e.symm] at h1
      rw [if_pos e] at h2
      rw [e, lexLe_anti (x := xs) (y := ys) h1 h2]
    · rw [if_neg (Ne.symm e)] at h1
      rw [if_neg e] at h2
      have a := of_decide_eq_false h1
      have b := of_decide_eq_false h2
      omega
theorem insL_sorted (x : List Int) : ∀ {ys : List (List Int)}, ys.Pairwise lexLe → (insL x ys).Pairwise lexLe
  | [], _ => List.pairwise_singleton _ _
  | y :: ys, h => by
    unfold insL
    have h1 := List.pairwise_cons.mp h
    split
    · rename_i hxy
      refine List.pairwise_cons.mpr ⟨fun z hz => ?_, insL_sorted x h1.2⟩
      rcases List.mem_cons.mp ((insL_perm x ys).mem_iff.mp hz) with q | hz
      · rw [q]; exact NtL.lex_asym _ _ hxy
      · exact h1.1 z hz
    · rename_i hxy
      have hxy' : lexLe x y := by unfold lexLe; simpa using hxy
      refine List.pairwise_cons.mpr ⟨fun z hz => ?_, h⟩
      rcases List.mem_cons.mp hz with q | hz
      · rw [q]; exact hxy'
      · exact lexLe_tr hxy' (h1.1 z hz)
theorem sortL_sorted : ∀ xs : List (List Int), (sortL xs).Pairwise lexLe
  | [] => .nil
  | x :: xs => insL_sorted x (sortL_sorted xs)
theorem sortedL_one : ∀ {xs ys : List (List Int)}, xs.Perm ys → xs.Pairwise lexLe → ys.Pairwise lexLe → xs = ys
  | [], ys, p, _, _ => (List.Perm.nil_eq p)
  | x :: xs, [], p, _, _ => absurd p.length_eq (by simp)
  | x :: xs, y :: ys, p, h1, h2 => by
    have a := List.pairwise_cons.mp h1
    have b := List.pairwise_cons.mp h2
    have e : x = y := by
      have m1 : x ∈ y :: ys := p.mem_iff.mp List.mem_cons_self
      have m2 : y ∈ x :: xs := p.mem_iff.mpr List.mem_cons_self
      rcases List.mem_cons.mp m1 with q | q
      · exact q
      · rcases List.mem_cons.mp m2 with q2 | q2
        · exact q2.symm
        · exact lexLe_anti (a.1 y q2) (b.1 x q)
    subst e
    rw [sortedL_one (List.Perm.cons_inv p) a.2 b.2]
theorem sortL_of {xs ys : List (List Int)} (p : ys.Perm xs) (s : ys.Pairwise lexLe) : ys = sortL xs := sortedL_one (p.trans (sortL_perm xs).symm) s (sortL_sorted xs)
/-- the items as tuples of ints -/
def tupsD : List D → Option (List (List Int))
  | [] => some []
  | .tup x :: ds => match intsD x, tupsD ds with
    | some k, some ks => some (k :: ks)
    | _, _ => none
  | _ :: _ => none
def tupI (ns : List Int) : D := .tup (ns.map D.int)
theorem tups_of {μ : Mu} {k : Nat} {H : Hp} : ∀ {ds : List D} {vs : List V} {ks : List (List Int)}, tupsD ds = some ks → Rps μ k H ds vs → ∃ ts : List (Addr × List Int), vs = (ts.map (·.1)).map V.ref ∧ ts.map (·.2) = ks ∧ ∀ p ∈ ts, H p.1 = some (.tup (p.2.map V.int))
  | [], _, _, e, r => by
    cases e
    exact ⟨[], r, rfl, fun _ h => absurd h (by simp)⟩
  | .tup x :: ds, _, ks, e, ⟨v, ws, z, r1, r2⟩ => by
    unfold tupsD at e
    cases q : intsD x with
    | none => simp only [q] at e; cases e
    | some n =>
      cases q2 : tupsD ds with
      | none => simp only [q, q2] at e; cases e
      | some ns =>
        simp only [q, q2] at e
        cases e
        obtain ⟨ts, e1, e2, e3⟩ := tups_of q2 r2
        obtain ⟨a, vs, ea, ha, hr⟩ := r1
        refine ⟨(a, n) :: ts, by rw [z, ea, e1]; rfl, by rw [List.map_cons, e2], fun p hp => ?_⟩
        rcases List.mem_cons.mp hp with y | y
        · rw [y, ha, (ints_of q hr).1]
        · exact e3 p y
  | .int _ :: _, _, _, e, _ => by cases e
  | .bl _ :: _, _, _, e, _ => by cases e
  | .non :: _, _, _, e, _ => by cases e
  | .str _ :: _, _, _, e, _ => by cases e
  | .ref _ :: _, _, _, e, _ => by cases e
  | .ty _ :: _, _, _, e, _ => by cases e
  | .cls _ :: _, _, _, e, _ => by cases e
theorem rp_tupI {μ : Mu} {k : Nat} {H : Hp} {ns : List Int} {a : Addr} (h : H a = some (.tup (ns.map V.int))) : Rp μ k H (tupI ns) (.ref a) := ⟨a, _, rfl, h, rps_ints ns⟩
theorem rps_tups {μ : Mu} {k : Nat} {H : Hp} {f : Addr → List Int} : ∀ {ts : List Addr}, (∀ t ∈ ts, H t = some (.tup ((f t).map V.int))) → Rps μ k H ((ts.map f).map tupI) (ts.map V.ref)
  | [], _ => rfl
  | t :: ts, h => ⟨_, _, rfl, rp_tupI (h t List.mem_cons_self), rps_tups fun u hu => h u (List.mem_cons_of_mem _ hu)⟩
def sortedT : List D → LH → R D
  | [.ref n], L => match lstAt L n with
    | some xs => match tupsD xs with
      | some ks => if ks.length < 2 ∨ [] ∉ ks then .ok (.ref L.length) (L ++ [.lst true ((sortL ks).map tupI)]) else .bad
      | none => .bad
    | none => .bad
  | _, _ => .bad
theorem V_int_inj : ∀ {x y : List Int}, x.map V.int = y.map V.int → x = y
  | [], [], _ => rfl
  | [], _ :: _, h => by cases h
  | _ :: _, [], h => by cases h
  | x :: xs, y :: ys, h => by
    rw [List.map_cons, List.map_cons] at h
    injection h with h1 h2
    injection h1 with h1
    rw [h1, V_int_inj h2]
/-- the numbers of the tuple at a -/
noncomputable def keyAt (H : Hp) (a : Addr) : List Int := open Classical in if h : ∃ ns : List Int, H a = some (.tup (ns.map V.int)) then h.choose else []
theorem keyAt_of {H : Hp} {a : Addr} {ns : List Int} (h : H a = some (.tup (ns.map V.int))) : keyAt H a = ns := by
  have q : ∃ ns : List Int, H a = some (.tup (ns.map V.int)) := ⟨ns, h⟩
  unfold keyAt
  rw [dif_pos q]
  have z : some (HO.tup (ns.map V.int)) = some (HO.tup (q.choose.map V.int)) := h.symm.trans q.choose_spec
  injection z with z
  injection z with z
  exact (V_int_inj z).symm
section
variable {T : List Addr} {K : PySem.W.Frag}
theorem cas_sortedT : CaS T (rSortedTI K) sortedT := fun W μ L H xs ds Q g rs h => by
  match ds, rs, h with
  | [d], rs, h =>
    obtain ⟨v, e, r⟩ := rps1 rs
    cases d with
    | ref n =>
      rw [r.2] at e
      unfold sortedT at h
      cases q : lstAt L n with
      | none => simp only [q] at h; exact h.elim
      | some ys =>
        simp only [q] at h
        cases q2 : tupsD ys with
        | none => simp only [q2] at h; exact h.elim
        | some ks =>
          simp only [q2] at h
          by_cases c : ks.length < 2 ∨ [] ∉ ks
          · rw [if_pos c] at h
            obtain ⟨vs, hs, rr⟩ := lst_at (K := K) g q
            obtain ⟨ts, e1, e2, e3⟩ := tups_of q2 rr
            have hk : ∀ t ∈ ts.map (·.1), H t = some (.tup ((keyAt H t).map V.int)) := fun t ht => by
              obtain ⟨p, hp, rfl⟩ := List.mem_map.mp ht
              rw [keyAt_of (e3 p hp)]
              exact e3 p hp
            have ek : (ts.map (·.1)).map (keyAt H) = ks := by
              rw [← e2, List.map_map]
              exact List.map_congr_left fun p hp => keyAt_of (e3 p hp)
            rw [e1] at hs
            refine ⟨μ n, ts.map (·.1), keyAt H, e, hs, hk, ?_, fun ts' p hp hw hn => ?_⟩
            · rcases c with c | c
              · refine .inl ?_
                rw [← ek, List.length_map] at c
                exact c
              · refine .inr fun t ht z => c ?_
                rw [← ek]
                exact List.mem_map.mpr ⟨t, ht, z⟩
            · have es : ts'.map (keyAt H) = sortL ks := sortL_of (by rw [← ek]; exact hp.map _) (List.pairwise_map.mpr hw)
              rw [← es] at h
              exact fin_lst g (rps_tups fun t ht => hk t (hp.mem_iff.mp ht)) h p hn
          · rw [if_neg c] at h
            exact h.elim
    | _ => exact h.elim
  | [], _, h => exact h.elim
  | a :: b :: c, _, h => cases a <;> exact h.elim
/-- the list's items are ints -/
def areI (ds : List D) (L : LH) : Bool := match ds with
  | [.ref n] => match lstAt L n with
    | some xs => (intsD xs).isSome
    | none => false
  | _ => false
def sortedD : List D → LH → R D := fun ds L => if areI ds L = true then sortedI ds L else sortedT ds L
theorem cas_sortedD : CaS T (fun xs H Q => rSortedI K xs H Q ∨ rSortedTI K xs H Q) sortedD := fun W μ L H xs ds Q g rs h => by
  unfold sortedD at h
  by_cases c : areI ds L = true
  · rw [if_pos c] at h
    exact .inl (cas_sortedI W μ L H xs ds Q g rs h)
  · rw [if_neg c] at h
    exact .inr (cas_sortedT W μ L H xs ds Q g rs h)
end
theorem cr_sortedD {X : Cx} : CallR X (.builtin "sorted") (fun xs H Q => rSortedI X.K xs H Q ∨ rSortedTI X.K xs H Q) := by
  intro pins s σ H vs us Q I r h
  rcases h with h | h
  · exact cr_sortedI pins s σ H vs us Q I r h
  · exact cr_sortedTI pins s σ H vs us Q I r h
theorem c_sortedD {Fa : Cx → Prop} {G : _} {N : _} {sc : _} {k : _} {W : _} (h : Fm Fa G N sc k W) : ∀ X, Fa X → CallR X (.builtin "sorted") (fun xs H Q => rSortedI G.K xs H Q ∨ rSortedTI G.K xs H Q) := fun X hX => by rw [← (h.g X hX).2.2.1]; exact cr_sortedD
end DI
set_option Elab.async false
set_option linter.all false
set_option maxRecDepth 100000
set_option maxHeartbeats 4000000
/-! not e as a value, by truth. -/
namespace DI
open PySem PySem.Spec PyProof.Rows L2 GxR
def eNotT (ma : Sl → LH → R D) : Sl → LH → R D := fun env L => (ma env L).bind fun d L => match truD L d with
  | some b => .ok (.bl (!b)) L
  | none => .bad
section
variable {Fa : Fam} {G : Pr} {T : Tb} {W : WX} {N : List Str} {sc : Scope} {k : Nat} {a : Expr} {ma : Sl → LH → R D} {pos : Pos}
theorem ev_notT {K : PySem.W.Frag} {te : TE} {env : Sl} {m : LH → R D} (he : EvE T W te env m) : EvE T W (tNotT K te) env fun L => (m L).bind fun d L => match truD L d with
    | some b => .ok (.bl (!b)) L
    | none => .bad := fun μ L σ H Q g s h =>
  he μ L σ H _ g s (Fin.bind h fun μ1 L1 H1 d x x1 g1 r1 h1 => by
    cases e : truD L1 d with
    | none => simp only [e] at h1; exact h1.elim
    | some b =>
      simp only [e] at h1
      exact ⟨b, tru_of g1 e r1, h1 μ1 H1 (.bl (!b)) Xt.refl g1 rfl⟩)
theorem se_notT (hG : Fm Fa G N sc k W) (ha : SE Fa T W a ma) : SE Fa T W (.UnaryOp .Not a pos) (eNotT ma) := by
  obtain ⟨ta, pa, va⟩ := ha
  refine ⟨tNotT G.K ta, fun X hX => ?_, fun env => ev_notT (va env)⟩
  have := pe_notT (pos := pos) (pa X hX)
  rw [(hG.g X hX).2.2.1] at this
  exact this
end
end DI

set_option Elab.async false
set_option linter.all false
set_option maxRecDepth 100000
set_option maxHeartbeats 4000000
namespace K26
open PySem PySem.Spec PyProof.Rows L2
abbrev PW : Program := PySem.Challenge.pw_oldnews_k26_fine_runs_walked
def top (i : Nat) : Stmt := PySem.Challenge.pw_oldnews_k26_fine_runs_walked.main.body.getD i (.Pass ⟨0, 0, 0, 0⟩)
abbrev s_wall : Stmt := top 0
abbrev s_check_top : Stmt := top 13
abbrev s_is_ascending : Stmt := top 14
abbrev s_is_group : Stmt := top 15
abbrev s_is_row_of : Stmt := top 16
abbrev s_is_size : Stmt := top 17
abbrev s_as_state : Stmt := top 18
abbrev s_as_any_state : Stmt := top 19
abbrev s_as_any_levels : Stmt := top 20
abbrev s_corner : Stmt := top 22
abbrev s_reading_room : Stmt := top 23
abbrev s_corner_state : Stmt := top 24
abbrev s_corner_of : Stmt := top 25
abbrev s_readable : Stmt := top 26
abbrev s_mark_of : Stmt := top 27
abbrev s_state_at : Stmt := top 28
abbrev s_digits_of : Stmt := top 30
abbrev s_fine_states : Stmt := top 32
abbrev s_levels_along : Stmt := top 33
abbrev s_levels_after : Stmt := top 34
abbrev s_is_good : Stmt := top 35
abbrev s_can_read : Stmt := top 36
abbrev s_digit_of_step : Stmt := top 37
abbrev s_table_of : Stmt := top 43
abbrev s_rows_table : Stmt := top 44
abbrev s_terms_table : Stmt := top 45
abbrev s_are_terms : Stmt := top 46
abbrev s_is_term : Stmt := top 47
abbrev s_stands_apart : Stmt := top 48
abbrev s_contains : Stmt := top 49
abbrev s_digit_of_sign : Stmt := top 50
abbrev s_tables_of_web : Stmt := top 53
abbrev s_law_cell : Stmt := top 55
abbrev s_law_draws : Stmt := top 56
abbrev s_law_heard : Stmt := top 57
abbrev s_law_terms : Stmt := top 58
abbrev s_law_table : Stmt := top 59
abbrev s_law_lists : Stmt := top 60
abbrev s_law_house_numbers : Stmt := top 61
abbrev s_law_value : Stmt := top 62
abbrev s_law_integers : Stmt := top 63
abbrev s_law_mark : Stmt := top 64
abbrev s_law_beat : Stmt := top 65
abbrev s_law_run : Stmt := top 66
abbrev s_law_run_lists : Stmt := top 67
abbrev s_law_walk_is : Stmt := top 68
abbrev s_law_rooms_are : Stmt := top 69
abbrev s_law : Stmt := top 70
abbrev s_Table_init__ : Stmt := inClass (top 40) 0
abbrev s_RowsTable_init__ : Stmt := inClass (top 41) 0
abbrev s_RowsTable_digit_for : Stmt := inClass (top 41) 1
abbrev s_RowsTable_value : Stmt := inClass (top 41) 2
abbrev s_RowsTable_takes : Stmt := inClass (top 41) 3
abbrev s_RowsTable_as_row : Stmt := inClass (top 41) 4
abbrev s_TermsTable_init__ : Stmt := inClass (top 42) 0
abbrev s_TermsTable_digit_for : Stmt := inClass (top 42) 1
abbrev s_TermsTable_value : Stmt := inClass (top 42) 2
abbrev s_TermsTable_takes : Stmt := inClass (top 42) 3
abbrev s_TermsTable_as_row : Stmt := inClass (top 42) 4
abbrev s_Web_init__ : Stmt := inClass (top 52) 1
abbrev s_Web_rows : Stmt := inClass (top 52) 2
abbrev s_Web_hears : Stmt := inClass (top 52) 3
abbrev s_Web_value : Stmt := inClass (top 52) 4
abbrev s_Web_takes : Stmt := inClass (top 52) 5
abbrev s_Web_image : Stmt := inClass (top 52) 6
abbrev s_Web_with_table : Stmt := inClass (top 52) 7
def d0 : He.DefD := ⟨("check_top", none), "check_top", "check_top", defArgs s_check_top, defBody s_check_top, defScope s_check_top, [], []⟩
def d1 : He.DefD := ⟨("is_ascending", none), "is_ascending", "is_ascending", defArgs s_is_ascending, defBody s_is_ascending, defScope s_is_ascending, [], []⟩
def d2 : He.DefD := ⟨("is_group", none), "is_group", "is_group", defArgs s_is_group, defBody s_is_group, defScope s_is_group, [], []⟩
def d3 : He.DefD := ⟨("is_row_of", none), "is_row_of", "is_row_of", defArgs s_is_row_of, defBody s_is_row_of, defScope s_is_row_of, [], []⟩
def d4 : He.DefD := ⟨("is_size", none), "is_size", "is_size", defArgs s_is_size, defBody s_is_size, defScope s_is_size, [], []⟩
def d5 : He.DefD := ⟨("as_state", none), "as_state", "as_state", defArgs s_as_state, defBody s_as_state, defScope s_as_state, [], []⟩
def d6 : He.DefD := ⟨("as_any_state", none), "as_any_state", "as_any_state", defArgs s_as_any_state, defBody s_as_any_state, defScope s_as_any_state, [], []⟩
def d7 : He.DefD := ⟨("as_any_levels", none), "as_any_levels", "as_any_levels", defArgs s_as_any_levels, defBody s_as_any_levels, defScope s_as_any_levels, [], []⟩
def d8 : He.DefD := ⟨("corner", none), "corner", "corner", defArgs s_corner, defBody s_corner, defScope s_corner, [], []⟩
def d9 : He.DefD := ⟨("reading_room", none), "reading_room", "reading_room", defArgs s_reading_room, defBody s_reading_room, defScope s_reading_room, [], []⟩
def d10 : He.DefD := ⟨("corner_state", none), "corner_state", "corner_state", defArgs s_corner_state, defBody s_corner_state, defScope s_corner_state, [], []⟩
def d11 : He.DefD := ⟨("corner_of", none), "corner_of", "corner_of", defArgs s_corner_of, defBody s_corner_of, defScope s_corner_of, [], []⟩
def d12 : He.DefD := ⟨("readable", none), "readable", "readable", defArgs s_readable, defBody s_readable, defScope s_readable, [], []⟩
def d13 : He.DefD := ⟨("mark_of", none), "mark_of", "mark_of", defArgs s_mark_of, defBody s_mark_of, defScope s_mark_of, [], []⟩
def d14 : He.DefD := ⟨("state_at", none), "state_at", "state_at", defArgs s_state_at, defBody s_state_at, defScope s_state_at, [], []⟩
def d15 : He.DefD := ⟨("digits_of", none), "digits_of", "digits_of", defArgs s_digits_of, defBody s_digits_of, defScope s_digits_of, [], []⟩
def d16 : He.DefD := ⟨("fine_states", none), "fine_states", "fine_states", defArgs s_fine_states, defBody s_fine_states, defScope s_fine_states, [], []⟩
def d17 : He.DefD := ⟨("levels_along", none), "levels_along", "levels_along", defArgs s_levels_along, defBody s_levels_along, defScope s_levels_along, [], []⟩
def d18 : He.DefD := ⟨("levels_after", none), "levels_after", "levels_after", defArgs s_levels_after, defBody s_levels_after, defScope s_levels_after, [], []⟩
def d19 : He.DefD := ⟨("is_good", none), "is_good", "is_good", defArgs s_is_good, defBody s_is_good, defScope s_is_good, [], []⟩
def d20 : He.DefD := ⟨("can_read", none), "can_read", "can_read", defArgs s_can_read, defBody s_can_read, defScope s_can_read, [], []⟩
def d21 : He.DefD := ⟨("digit_of_step", none), "digit_of_step", "digit_of_step", defArgs s_digit_of_step, defBody s_digit_of_step, defScope s_digit_of_step, [], []⟩
def d22 : He.DefD := ⟨("table_of", none), "table_of", "table_of", defArgs s_table_of, defBody s_table_of, defScope s_table_of, [], []⟩
def d23 : He.DefD := ⟨("rows_table", none), "rows_table", "rows_table", defArgs s_rows_table, defBody s_rows_table, defScope s_rows_table, [], []⟩
def d24 : He.DefD := ⟨("terms_table", none), "terms_table", "terms_table", defArgs s_terms_table, defBody s_terms_table, defScope s_terms_table, [], []⟩
def d25 : He.DefD := ⟨("are_terms", none), "are_terms", "are_terms", defArgs s_are_terms, defBody s_are_terms, defScope s_are_terms, [], []⟩
def d26 : He.DefD := ⟨("is_term", none), "is_term", "is_term", defArgs s_is_term, defBody s_is_term, defScope s_is_term, [], []⟩
def d27 : He.DefD := ⟨("stands_apart", none), "stands_apart", "stands_apart", defArgs s_stands_apart, defBody s_stands_apart, defScope s_stands_apart, [], []⟩
def d28 : He.DefD := ⟨("contains", none), "contains", "contains", defArgs s_contains, defBody s_contains, defScope s_contains, [], []⟩
def d29 : He.DefD := ⟨("digit_of_sign", none), "digit_of_sign", "digit_of_sign", defArgs s_digit_of_sign, defBody s_digit_of_sign, defScope s_digit_of_sign, [], []⟩
def d30 : He.DefD := ⟨("tables_of_web", none), "tables_of_web", "tables_of_web", defArgs s_tables_of_web, defBody s_tables_of_web, defScope s_tables_of_web, [], []⟩
def d31 : He.DefD := ⟨("_law_cell", none), "_law_cell", "_law_cell", defArgs s_law_cell, defBody s_law_cell, defScope s_law_cell, [], []⟩
def d32 : He.DefD := ⟨("_law_draws", none), "_law_draws", "_law_draws", defArgs s_law_draws, defBody s_law_draws, defScope s_law_draws, [], []⟩
def d33 : He.DefD := ⟨("_law_heard", none), "_law_heard", "_law_heard", defArgs s_law_heard, defBody s_law_heard, defScope s_law_heard, [], []⟩
def d34 : He.DefD := ⟨("_law_terms", none), "_law_terms", "_law_terms", defArgs s_law_terms, defBody s_law_terms, defScope s_law_terms, [], []⟩
def d35 : He.DefD := ⟨("_law_table", none), "_law_table", "_law_table", defArgs s_law_table, defBody s_law_table, defScope s_law_table, [], []⟩
def d36 : He.DefD := ⟨("_law_lists", none), "_law_lists", "_law_lists", defArgs s_law_lists, defBody s_law_lists, defScope s_law_lists, [], []⟩
def d37 : He.DefD := ⟨("_law_house_numbers", none), "_law_house_numbers", "_law_house_numbers", defArgs s_law_house_numbers, defBody s_law_house_numbers, defScope s_law_house_numbers, [], []⟩
def d38 : He.DefD := ⟨("_law_value", none), "_law_value", "_law_value", defArgs s_law_value, defBody s_law_value, defScope s_law_value, [], []⟩
def d39 : He.DefD := ⟨("_law_integers", none), "_law_integers", "_law_integers", defArgs s_law_integers, defBody s_law_integers, defScope s_law_integers, [], []⟩
def d40 : He.DefD := ⟨("_law_mark", none), "_law_mark", "_law_mark", defArgs s_law_mark, defBody s_law_mark, defScope s_law_mark, [], []⟩
def d41 : He.DefD := ⟨("_law_beat", none), "_law_beat", "_law_beat", defArgs s_law_beat, defBody s_law_beat, defScope s_law_beat, [], []⟩
def d42 : He.DefD := ⟨("_law_run", none), "_law_run", "_law_run", defArgs s_law_run, defBody s_law_run, defScope s_law_run, [], []⟩
def d43 : He.DefD := ⟨("_law_run_lists", none), "_law_run_lists", "_law_run_lists", defArgs s_law_run_lists, defBody s_law_run_lists, defScope s_law_run_lists, [], []⟩
def d44 : He.DefD := ⟨("_law_walk_is", none), "_law_walk_is", "_law_walk_is", defArgs s_law_walk_is, defBody s_law_walk_is, defScope s_law_walk_is, [], []⟩
def d45 : He.DefD := ⟨("_law_rooms_are", none), "_law_rooms_are", "_law_rooms_are", defArgs s_law_rooms_are, defBody s_law_rooms_are, defScope s_law_rooms_are, [], []⟩
def d46 : He.DefD := ⟨("law", none), "law", "law", defArgs s_law, defBody s_law, defScope s_law, [], []⟩
def d47 : He.DefD := ⟨("Table", some "__init__"), "__init__", "Table.__init__", defArgs s_Table_init__, defBody s_Table_init__, defScope s_Table_init__, [], []⟩
def d48 : He.DefD := ⟨("RowsTable", some "digit_for"), "digit_for", "RowsTable.digit_for", defArgs s_RowsTable_digit_for, defBody s_RowsTable_digit_for, defScope s_RowsTable_digit_for, [], []⟩
def d49 : He.DefD := ⟨("RowsTable", some "as_row"), "as_row", "RowsTable.as_row", defArgs s_RowsTable_as_row, defBody s_RowsTable_as_row, defScope s_RowsTable_as_row, [], []⟩
def d50 : He.DefD := ⟨("TermsTable", some "digit_for"), "digit_for", "TermsTable.digit_for", defArgs s_TermsTable_digit_for, defBody s_TermsTable_digit_for, defScope s_TermsTable_digit_for, [], []⟩
def d51 : He.DefD := ⟨("TermsTable", some "as_row"), "as_row", "TermsTable.as_row", defArgs s_TermsTable_as_row, defBody s_TermsTable_as_row, defScope s_TermsTable_as_row, [], []⟩
def d52 : He.DefD := ⟨("Web", some "__init__"), "__init__", "Web.__init__", defArgs s_Web_init__, defBody s_Web_init__, defScope s_Web_init__, [], []⟩
def d53 : He.DefD := ⟨("Web", some "rows"), "rows", "Web.rows", defArgs s_Web_rows, defBody s_Web_rows, defScope s_Web_rows, [], []⟩
def fn_0 : List He.DefD := [d0, d1, d2, d3, d4, d5, d6, d7, d8, d9, d10, d11, d12, d13, d14, d15, d16, d17, d18, d19, d20, d21, d22, d23, d24, d25, d26, d27, d28, d29]
def fn_1 : List He.DefD := [d30, d31, d32, d33, d34, d35, d36, d37, d38, d39, d40, d41, d42, d43, d44, d45, d46, d47, d48, d49, d50, d51, d52, d53]
def fn : List He.DefD := fn_0 ++ fn_1
def fa_0 : List He.Fa := [.glo "check_top", .glo "is_ascending", .glo "is_group", .glo "is_row_of", .glo "is_size", .glo "as_state", .glo "as_any_state", .glo "as_any_levels", .glo "corner", .glo "reading_room", .glo "corner_state", .glo "corner_of", .glo "readable", .glo "mark_of", .glo "state_at", .glo "digits_of", .glo "fine_states", .glo "levels_along", .glo "levels_after", .glo "is_good", .glo "can_read", .glo "digit_of_step", .glo "table_of", .glo "rows_table", .glo "terms_table", .glo "are_terms", .glo "is_term", .glo "stands_apart", .glo "contains", .glo "digit_of_sign"]
def fa_1 : List He.Fa := [.glo "tables_of_web", .glo "_law_cell", .glo "_law_draws", .glo "_law_heard", .glo "_law_terms", .glo "_law_table", .glo "_law_lists", .glo "_law_house_numbers", .glo "_law_value", .glo "_law_integers", .glo "_law_mark", .glo "_law_beat", .glo "_law_run", .glo "_law_run_lists", .glo "_law_walk_is", .glo "_law_rooms_are", .glo "law", .glo "Table", .cls "Table", .glo "RowsTable", .cls "RowsTable", .glo "TermsTable", .cls "TermsTable", .glo "Web", .cls "Web", .mkr "Web", .mkr "RowsTable", .mkr "TermsTable", .meth "RowsTable" "digit_for", .meth "RowsTable" "as_row"]
def fa_2 : List He.Fa := [.meth "TermsTable" "digit_for", .meth "TermsTable" "as_row", .meth "Web" "rows", .noat "Table" "heard", .noat "RowsTable" "heard", .noat "RowsTable" "bits", .noat "TermsTable" "heard", .noat "TermsTable" "hearings", .noat "TermsTable" "terms", .noat "Web" "size", .noat "Web" "tables", .free "ValueError", .free "all", .free "tuple", .free "enumerate", .free "list", .free "abs", .free "range", .free "len", .free "any", .free "int", .free "min", .free "sorted", .free "isinstance", .free "super", .free "zip", .free "bool", .free "max", .int "MOST_HOUSES" 12, .int "MOST_HEARD" 4]
def fa_3 : List He.Fa := [.glo "BadTable", .glo "BadRun"]
def fa : List He.Fa := fa_0 ++ fa_1 ++ fa_2 ++ fa_3
def ds : List HeS.DefS := [⟨"RowsTable", "RowsTable.__init__", defArgs s_RowsTable_init__, defBody s_RowsTable_init__, defScope s_RowsTable_init__⟩, ⟨"TermsTable", "TermsTable.__init__", defArgs s_TermsTable_init__, defBody s_TermsTable_init__, defScope s_TermsTable_init__⟩]
def tf : List He.Defn := [("is_ascending", none), ("is_group", none), ("is_row_of", none), ("as_any_levels", none), ("can_read", none), ("rows_table", none), ("terms_table", none), ("are_terms", none), ("is_term", none), ("stands_apart", none), ("contains", none), ("TermsTable", some "digit_for")]
def ex (K : PySem.W.Frag) : Bool := (HeS.supB K PW.main.file ⟨"RowsTable", "RowsTable.__init__", defArgs s_RowsTable_init__, defBody s_RowsTable_init__, defScope s_RowsTable_init__⟩) && (HeS.supB K PW.main.file ⟨"TermsTable", "TermsTable.__init__", defArgs s_TermsTable_init__, defBody s_TermsTable_init__, defScope s_TermsTable_init__⟩) && (He.eqO (PySem.W.ks_superIn K (He.ga K "RowsTable") (He.ga K "RowsTable") "__init__") (some (some (.ref (He.ma K (He.ga K "Table") "__init__"))))) && (decide (PySem.W.typeIn K (.ref (He.ma K (He.ga K "Table") "__init__")) = some (.type "function"))) && (PySem.W.fnIn K (He.ma K (He.ga K "Table") "__init__")) && (He.eqO (PySem.W.ks_superIn K (He.ga K "TermsTable") (He.ga K "TermsTable") "__init__") (some (some (.ref (He.ma K (He.ga K "Table") "__init__"))))) && (decide (PySem.W.typeIn K (.ref (He.ma K (He.ga K "Table") "__init__")) = some (.type "function"))) && (PySem.W.fnIn K (He.ma K (He.ga K "Table") "__init__")) && (decide (((["Web", "RowsTable", "TermsTable"] : List PySem.Str).map (He.ga K)).Nodup)) && (HeS.noL K)
def loose_0 : List PySem.Str := ["_wall", "check_top", "is_ascending", "is_group", "is_row_of", "is_size", "as_state", "as_any_state", "as_any_levels", "corner", "reading_room", "corner_state", "corner_of", "readable", "mark_of", "state_at", "digits_of", "fine_states", "levels_along", "levels_after", "is_good", "can_read", "digit_of_step", "table_of", "rows_table", "terms_table", "are_terms", "is_term", "stands_apart", "contains"]
def loose_1 : List PySem.Str := ["digit_of_sign", "tables_of_web", "_law_cell", "_law_draws", "_law_heard", "_law_terms", "_law_table", "_law_lists", "_law_house_numbers", "_law_value", "_law_integers", "_law_mark", "_law_beat", "_law_run", "_law_run_lists", "_law_walk_is", "_law_rooms_are", "OldNewsError", "BadArgument", "BadState", "BadLevels", "BadTop", "BadTable", "BadSize", "BadWeb", "BadRun", "Table", "RowsTable", "TermsTable", "Web"]
def loose_2 : List PySem.Str := ["MOST_HOUSES", "MOST_HEARD"]
def loose : List PySem.Str := loose_0 ++ loose_1 ++ loose_2
abbrev R : PySem.W.OpenRow := PySem.W.OpenLaw.row PySem.Challenge.rw_oldnews_k26_fine_runs_walked
def asL : List Addr := [2, 3, 6, 4, 21, 31, 44, 65, 86, 107, 128, 149, 170, 191, 200, 207, 214, 221, 228, 235, 242, 249, 256, 263, 270, 275, 280, 287, 294, 301, 308, 315, 322, 329, 336, 343, 360, 411, 456, 463, 470, 475, 482, 489, 496, 503, 510, 567, 578, 585, 592, 597, 602, 607, 612, 617, 622, 627, 634, 639, 644, 649, 656, 661, 666, 0, 20, 30, 43, 64, 85, 106, 127, 148, 169, 190, 199, 206, 213, 220, 227, 234, 241, 248, 255, 262, 269, 274, 279, 286, 293, 300, 307, 314, 321, 328, 335, 342, 359, 410, 455, 462, 469, 474, 481, 488, 495, 502, 509, 566, 577, 584, 591, 596, 601, 606, 611, 616, 621, 626, 633, 638, 643, 648, 655, 660, 665, 15, 17, 18, 19, 29, 32, 42, 62, 63, 83, 84, 104, 105, 125, 126, 146, 147, 167, 168, 188, 189, 194, 196, 197, 198, 201, 203, 204, 205, 208, 210, 211, 212, 215, 217, 218, 219, 222, 224, 225, 226, 229, 231, 232, 233, 236, 238, 239, 240, 243, 245, 246, 247, 250, 252, 253, 254, 257, 259, 260, 261, 264, 266, 267, 268, 271, 273, 276, 278, 281, 283, 284, 285, 288, 290, 291, 292, 295, 297, 298, 299, 302, 304, 305, 306, 309, 311, 312, 313, 316, 318, 319, 320, 323, 325, 326, 327, 330, 332, 333, 334, 337, 339, 340, 341, 357, 358, 361, 362, 380, 387, 394, 401, 408, 409, 427, 432, 439, 446, 453, 454, 459, 461, 464, 466, 467, 468, 471, 473, 476, 478, 479, 480, 483, 485, 486, 487, 490, 492, 493, 494, 497, 499, 500, 501, 504, 506, 507, 508, 524, 529, 536, 543, 550, 557, 564, 565, 568, 569, 572, 574, 575, 576, 579, 581, 582, 583, 586, 588, 589, 590, 593, 595, 598, 600, 603, 605, 608, 610, 613, 615, 618, 620, 623, 625, 628, 630, 631, 632, 635, 637, 640, 642, 645, 647, 650, 652, 653, 654, 657, 659, 662, 664, 61, 50, 82, 71, 103, 92, 124, 113, 145, 134, 166, 155, 187, 176, 356, 379, 368, 386, 393, 400, 407, 426, 417, 431, 438, 445, 452, 523, 528, 535, 542, 549, 556, 563, 56, 58, 59, 60, 77, 79, 80, 81, 98, 100, 101, 102, 119, 121, 122, 123, 140, 142, 143, 144, 161, 163, 164, 165, 182, 184, 185, 186, 351, 353, 354, 355, 374, 376, 377, 378, 381, 383, 384, 385, 388, 390, 391, 392, 395, 397, 398, 399, 402, 404, 405, 406, 423, 425, 428, 430, 433, 435, 436, 437, 440, 442, 443, 444, 447, 449, 450, 451, 518, 520, 521, 522, 525, 527, 530, 532, 533, 534, 537, 539, 540, 541, 544, 546, 547, 548, 551, 553, 554, 555, 558, 560, 561, 562, 202, 209, 216, 244, 331, 465, 472, 477, 484, 491, 498, 429]
abbrev hk : PySem.W.Hook := HeS.hookA asL fa fn ds tf ex
def ob (s : PySem.W.SharedT) : HeS.AlS := HeS.obsA asL fa fn ds tf ex (HandSHeadRun.getT s)
theorem ob_eq (s : PySem.W.SharedT) : ob s = hk.obs s.abs := HeS.obsA_eq (HandSHeadRun.getT_eq s)
def lawAt : Nat := 70
open PySem.Calls PySem.W in
set_option maxHeartbeats 0 in
theorem run_0 (w : PySem.World) (os : PySem.OsState) : (HandSHeadRun.endF (HandSHeadRun.stepQ (HandSHeadRun.denQ HandSHeadRun.tabQ) R.prog w) 6000 R.prog w os).map (fun s => (HandSHeadRun.looksF R.prog (boot_heap w.params) s.abs, HandSHeadRun.seenQ (PySem.W.view R.prog [70]) loose (importedModules R.prog.main.body) (fun s => xlAt (PySem.W.view R.prog [70]) [] s && recOk R.toRowW.records s) s.abs)) = some (true, openGood (PySem.W.view R.prog [70]) loose) := by kernel_rfl
open PySem.Calls PySem.W in
set_option maxHeartbeats 0 in
theorem run_1 (w : PySem.World) (os : PySem.OsState) : (HandSHeadRun.endF (HandSHeadRun.stepQ (HandSHeadRun.denQ HandSHeadRun.tabQ) R.prog w) 6000 R.prog w os).map (fun s => ob s) = some (hk.val w) := by kernel_rfl
theorem run (w : World) : HandSHeadRun.RunEq R (PySem.W.view R.prog [70]) hk ob 6000 loose w := fun os => HeS.join2 (run_0 w os) (run_1 w os)
end K26
set_option Elab.async false
set_option linter.all false
set_option maxRecDepth 100000
set_option maxHeartbeats 2000000
/-! What a meaning on plain data gives: weakest preconditions, loops by what stays true. -/
namespace DI
open PySem PySem.Spec PyProof.Rows
def Rw {α : Type} (r : R α) (P : α → LH → Prop) : Prop := match r with
  | .ok a L => P a L
  | _ => False
/-- P: goes on; Q: returns -/
def Sw (r : RS) (P : Sl → LH → Prop) (Q : D → LH → Prop) : Prop := match r with
  | .nx env L => P env L
  | .rt d L => Q d L
  | _ => False
section
variable {α β : Type} {P P' : α → LH → Prop} {r : R α} {L : LH} {env : Sl}
theorem Rw.mono (h : Rw r P) (k : ∀ a L, P a L → P' a L) : Rw r P' := by
  cases r with
  | ok a L => exact k a L h
  | _ => exact h.elim
theorem Rw.ok (h : Rw r P) : ∃ a L, r = .ok a L ∧ P a L := by
  cases r with
  | ok a L => exact ⟨a, L, rfl, h⟩
  | _ => exact h.elim
theorem rw_ok {a : α} : Rw (.ok a L) P = P a L := rfl
theorem rw_bad : Rw (.bad : R α) P = False := rfl
theorem rw_bind {f : α → LH → R β} {P : β → LH → Prop} : Rw (r.bind f) P = Rw r fun a L => Rw (f a L) P := by
  cases r <;> rfl
theorem rw_ite {c : Prop} [Decidable c] {r r' : R α} : Rw (if c then r else r') P = if c then Rw r P else Rw r' P := by
  split <;> rfl
theorem rw_if {c : Prop} [Decidable c] {r : R α} (hc : c) (h : Rw r P) : Rw (if c then r else .bad) P := by
  rw [if_pos hc]; exact h
theorem rw_noX (h : Rw r P) : Rw (noX r) P := by
  cases r with
  | ok a L => exact h
  | _ => exact h.elim
theorem Sw.mono {r : RS} {P P' : Sl → LH → Prop} {Q Q' : D → LH → Prop} (h : Sw r P Q) (k : ∀ e L, P e L → P' e L) (k' : ∀ d L, Q d L → Q' d L) : Sw r P' Q' := by
  cases r with
  | nx e L => exact k e L h
  | rt d L => exact k' d L h
  | _ => exact h.elim
variable {Ps : Sl → LH → Prop} {Qs : D → LH → Prop}
theorem sw_eS {f : α → LH → RS} : Sw (eS r env f) Ps Qs = Rw r fun a L => Sw (f a L) Ps Qs := by
  cases r <;> rfl
theorem sw_seq {m n : Sl → LH → RS} : Sw (sSeq m n env L) Ps Qs = Sw (m env L) (fun env L => Sw (n env L) Ps Qs) Qs := by
  unfold sSeq
  cases m env L <;> rfl
theorem sw_if {m : Sl → LH → R Bool} {n n' : Sl → LH → RS} : Sw (sIf m n n' env L) Ps Qs = Rw (m env L) fun b L => if b = true then Sw (n env L) Ps Qs else Sw (n' env L) Ps Qs := by
  unfold sIf
  rw [sw_eS]
  congr 1
  funext b L
  split <;> rfl
theorem sw_ret {m : Sl → LH → R D} : Sw (sRet m env L) Ps Qs = Rw (m env L) Qs := by
  unfold sRet
  rw [sw_eS]
  rfl
theorem sw_drop {m : Sl → LH → R D} : Sw (sDrop m env L) Ps Qs = Rw (m env L) fun _ L => Ps env L := by
  unfold sDrop
  rw [sw_eS]
  rfl
theorem sw_nx : Sw (sNx env L) Ps Qs = Ps env L := rfl
theorem sw_asg {m : Sl → LH → R D} {f : LH → Sl → D → Option Sl} : Sw (sAsg m f env L) Ps Qs = Rw (m env L) fun d L => match f L env d with | some e => Ps e L | none => False := by
  unfold sAsg
  rw [sw_eS]
  congr 1
  funext d L
  cases f L env d <;> rfl
theorem sw_asgN {m : Sl → LH → R D} {i : Nat} : Sw (sAsg m (gNm i) env L) Ps Qs = Rw (m env L) fun d L => Ps (env.set i (some d)) L := by
  rw [sw_asg] <;> rfl
theorem sw_for {mi : Sl → LH → R Src} {f : LH → Sl → D → Option Sl} {m : Sl → LH → RS} : Sw (sFor mi f m env L) Ps Qs = Rw (mi env L) fun src L => Sw (forD src f m turnsN 0 env L) Ps Qs := by
  unfold sFor
  rw [sw_eS]
variable {P : D → LH → Prop}
theorem rw_var {i : Nat} {d : D} (e : env[i]? = some (some d)) : Rw (eVar i env L) P = P d L := by
  unfold eVar
  rw [e]
  rfl
theorem rw_k {d : D} : Rw (eK d env L) P = P d L := rfl
theorem rw_op {f : D → D → LH → R D} {ma mb : Sl → LH → R D} : Rw (eOp f ma mb env L) P = Rw (ma env L) fun d L => Rw (mb env L) fun e L => Rw (f d e L) P := by
  unfold eOp
  rw [rw_bind]
  congr 1
  funext d L
  rw [rw_bind]
theorem rw_un {f : D → LH → R D} {ma : Sl → LH → R D} : Rw (eUn f ma env L) P = Rw (ma env L) fun d L => Rw (f d L) P := by
  unfold eUn
  rw [rw_bind]
theorem rw_nil {P : List D → LH → Prop} : Rw (aNil env L) P = P [] L := rfl
theorem rw_cons {ma : Sl → LH → R D} {mr : Sl → LH → R (List D)} {P : List D → LH → Prop} : Rw (aCons ma mr env L) P = Rw (ma env L) fun d L => Rw (mr env L) fun ds L => P (d :: ds) L := by
  unfold aCons
  rw [rw_bind]
  congr 1
  funext d L
  rw [rw_bind] <;> rfl
theorem rw_call {f : List D → LH → R D} {m : Sl → LH → R (List D)} : Rw (eCall f m env L) P = Rw (m env L) fun ds L => Rw (f ds L) P := by
  unfold eCall
  rw [rw_bind]
theorem rw_arg {f : List D → LH → R Src} {m : Sl → LH → R (List D)} {P : Src → LH → Prop} : Rw (iArg f m env L) P = Rw (m env L) fun ds L => Rw (f ds L) P := by
  unfold iArg
  rw [rw_bind]
theorem rw_src {ma : Sl → LH → R D} {P : Src → LH → Prop} : Rw (iSrc ma env L) P = Rw (ma env L) fun d L => Rw (srcD d L) P := by
  unfold iSrc
  rw [rw_bind]
theorem rw_fn {np : Nat} {F : Fn} {m : Sl → LH → R (List D)} : Rw (eFn np F m env L) P = Rw (m env L) fun ds L => if ds.length = np then Rw (F ds L) P else False := by
  unfold eFn
  rw [rw_bind]
  congr 1
  funext ds L
  split <;> rfl
theorem rw_tup {m : Sl → LH → R (List D)} : Rw (eTup m env L) P = Rw (m env L) fun ds L => if ds.length ≤ 100000 then P (.tup ds) L else False := by
  unfold eTup
  rw [rw_bind]
  congr 1
  funext ds L
  split <;> rfl
theorem rw_lst {m : Sl → LH → R (List D)} : Rw (eLst m env L) P = Rw (m env L) fun ds L => if ds.length ≤ 100000 then P (.ref L.length) (L ++ [.lst true ds]) else False := by
  unfold eLst
  rw [rw_bind]
  congr 1
  funext ds L
  split <;> rfl
theorem rw_val {ma : Sl → LH → R D} {P : Bool → LH → Prop} : Rw (bVal ma env L) P = Rw (ma env L) fun d L => match d with | .bl b => P b L | _ => False := by
  unfold bVal
  rw [rw_bind]
  congr 1
  funext d L
  cases d <;> rfl
theorem rw_not {m : Sl → LH → R Bool} {P : Bool → LH → Prop} : Rw (bNot m env L) P = Rw (m env L) fun b L => P (!b) L := by
  unfold bNot
  rw [rw_bind] <;> rfl
theorem rw_bm {c : D → LH → Bool} {f : D → List D → LH → R D} {ma : Sl → LH → R D} {m : Sl → LH → R (List D)} : Rw (eBm c f ma m env L) P = Rw (ma env L) fun d L => if c d L = true then Rw (m env L) fun ds L => Rw (f d ds L) P else False := by
  unfold eBm
  rw [rw_bind]
  congr 1
  funext d L
  split
  · rw [rw_bind]
  · rfl
theorem rw_fnD {N : List Str} {m : Sl → LH → RS} {ds : List D} : Rw (fnD N m ds L) P = Sw (m (startE N ds) L) (fun _ L => P .non L) P := by
  unfold fnD
  cases m (startE N ds) L <;> rfl
end
/-! ### loops -/
section
variable {src : Src} {f : LH → Sl → D → Option Sl} {xs : List D}
theorem forD_w {m : Sl → LH → RS} {P : Sl → LH → Prop} {Q : D → LH → Prop} (I : Nat → Sl → LH → Prop) (hat : ∀ i env L, i ≤ xs.length → I i env L → src.at L i = some xs[i]?)
    (hs : ∀ i env L d, xs[i]? = some d → I i env L → ∃ env1, f L env d = some env1 ∧ Sw (m env1 L) (I (i + 1)) Q) (hP : ∀ env L, I xs.length env L → P env L) :
    ∀ n i env L, xs.length < n + i → i ≤ xs.length → I i env L → Sw (forD src f m n i env L) P Q
  | 0, i, env, L, h1, h2, _ => absurd h1 (by omega)
  | n + 1, i, env, L, h1, h2, hI => by
    unfold forD
    rw [hat i env L h2 hI]
    cases e : xs[i]? with
    | none =>
      have : xs.length ≤ i := List.getElem?_eq_none_iff.mp e
      have ei : i = xs.length := by omega
      subst ei
      exact hP env L hI
    | some d =>
      obtain ⟨env1, e1, h⟩ := hs i env L d e hI
      have hi : i < xs.length := (List.getElem?_eq_some_iff.mp e).1
      simp only [e1]
      cases z : m env1 L with
      | nx env2 L2 =>
        rw [z] at h
        exact forD_w I hat hs hP n (i + 1) env2 L2 (by omega) (by omega) h
      | rt d L2 =>
        rw [z] at h
        exact h
      | _ =>
        rw [z] at h
        exact h.elim
theorem lcD_w {t : Sl → LH → R Bool} {m : Sl → LH → R D} {n0 : Nat} {env : Sl} {P : D → LH → Prop} (I : Nat → List D → LH → Prop) (hat : ∀ i acc L, i ≤ xs.length → I i acc L → src.at L i = some xs[i]?)
    (hl : xs.length ≤ 100000) (hs : ∀ i acc L d, xs[i]? = some d → acc.length ≤ i → I i acc L → ∃ env1, f L env d = some env1 ∧ Rw (t env1 L) fun b L1 => if b = true then Rw (m env1 L1) fun e L2 => mutAt L2 n0 = some acc ∧ I (i + 1) (acc ++ [e]) (L2.set n0 (.lst true (acc ++ [e]))) else I (i + 1) acc L1)
    (hP : ∀ acc L, acc.length ≤ xs.length → I xs.length acc L → P (.ref n0) L) : ∀ n i acc L, xs.length < n + i → i ≤ xs.length → acc.length ≤ i → I i acc L → Rw (lcD src f t m n0 env n i L) P
  | 0, i, acc, L, h1, h2, _, _ => absurd h1 (by omega)
  | n + 1, i, acc, L, h1, h2, ha, hI => by
    unfold lcD
    rw [hat i acc L h2 hI]
    cases e : xs[i]? with
    | none =>
      have : xs.length ≤ i := List.getElem?_eq_none_iff.mp e
      have ei : i = xs.length := by omega
      subst ei
      exact hP acc L ha hI
    | some d =>
      obtain ⟨env1, e1, h⟩ := hs i acc L d e ha hI
      have hi : i < xs.length := (List.getElem?_eq_some_iff.mp e).1
      simp only [e1]
      rw [rw_bind]
      refine h.mono fun b L1 h => ?_
      cases b with
      | true =>
        simp only [if_true] at h ⊢
        rw [rw_bind]
        refine h.mono fun y L2 h => ?_
        obtain ⟨h3, h4⟩ := h
        simp only [h3]
        rw [if_pos (by omega)]
        exact lcD_w I hat hl hs hP n (i + 1) (acc ++ [y]) _ (by omega) (by omega) (by rw [List.length_append, List.length_singleton]; omega) h4
      | false =>
        simp only [Bool.false_eq_true, if_false] at h ⊢
        exact lcD_w I hat hl hs hP n (i + 1) acc L1 (by omega) (by omega) (by omega) h
end
end DI
set_option Elab.async false
set_option linter.all false
set_option maxRecDepth 100000
set_option maxHeartbeats 2000000
/-! The operators by weakest preconditions; heaps that only grow. -/
namespace DI
open PySem PySem.Spec PyProof.Rows L2 GxR
/-- each cell stays -/
def Ex' (L L' : LH) : Prop := ∀ (i : Nat) (c : Cell), L[i]? = some c → L'[i]? = some c
section
variable {L L' L2 : LH}
theorem Ex'.refl : Ex' L L := fun _ _ h => h
theorem Ex'.trans (a : Ex' L L') (b : Ex' L' L2) : Ex' L L2 := fun i c h => b i c (a i c h)
theorem Ex'.app {M : LH} : Ex' L (L ++ M) := fun i c h => by
  rw [List.getElem?_append_left (List.getElem?_eq_some_iff.mp h).1]
  exact h
theorem Ex'.set {n : Nat} {c : Cell} (a : Ex' L L') (h : L.length ≤ n) : Ex' L (L'.set n c) := fun i d e => by
  have hi : i < L.length := (List.getElem?_eq_some_iff.mp e).1
  rw [List.getElem?_set_ne (by omega)]
  exact a i d e
theorem Ex'.le (a : Ex' L L') : L.length ≤ L'.length := by
  cases z : L.length with
  | zero => exact Nat.zero_le _
  | succ k =>
    have h : k < L.length := by omega
    have q := a k L[k] (List.getElem?_eq_getElem h)
    exact (List.getElem?_eq_some_iff.mp q).1
theorem Ex'.lst {n : Nat} {xs : List D} (a : Ex' L L') (h : lstAt L n = some xs) : lstAt L' n = some xs := by
  unfold lstAt at h ⊢
  cases e : L[n]? with
  | none => rw [e] at h; cases h
  | some c => rw [a n c e]; rw [e] at h; exact h
theorem lst_of {n : Nat} {b : Bool} {xs : List D} (h : L[n]? = some (.lst b xs)) : lstAt L n = some xs := by
  unfold lstAt
  rw [h]
theorem mut_of {n : Nat} {xs : List D} (h : L[n]? = some (.lst true xs)) : mutAt L n = some xs := by
  unfold mutAt
  rw [h]
end
/-! ### operators -/
section
variable {P : D → LH → Prop} {L : LH} {i j : Int}
theorem rw_addI : Rw (addD (.int i) (.int j) L) P = P (.int (i + j)) L := rfl
theorem rw_subI : Rw (subD (.int i) (.int j) L) P = P (.int (i - j)) L := rfl
theorem rw_ltI : Rw (ltD (.int i) (.int j) L) P = P (.bl (decide (i < j))) L := rfl
theorem rw_leI : Rw (leD (.int i) (.int j) L) P = P (.bl (decide (i ≤ j))) L := rfl
theorem rw_gtI : Rw (gtD (.int i) (.int j) L) P = P (.bl (decide (j < i))) L := rfl
theorem rw_geI : Rw (geD (.int i) (.int j) L) P = P (.bl (decide (j ≤ i))) L := rfl
theorem rw_andI : Rw (andD (.int i) (.int j) L) P = P (.int (Builtin.bitAnd i j)) L := rfl
theorem rw_i2c {c : Prop} [Decidable c] {d : D} (h : c) (hp : P d L) : Rw (match (if c then some d else none : Option D) with | some d => .ok d L | none => .bad) P := by
  rw [if_pos h]
  exact hp
theorem cmulx_small (h1 : -(2 ^ 64) < i) (h2 : i < 2 ^ 64) (h3 : -(2 ^ 64) < j) (h4 : j < 2 ^ 64) : CMulX i j := by
  have a := intBits_le_64 h1 h2
  have b := intBits_le_64 h3 h4
  unfold CMulX
  omega
theorem rw_mulI (h : CMulX i j) (hp : P (.int (i * j)) L) : Rw (mulD (.int i) (.int j) L) P := by
  show Rw (i2 (fun i j => if CMulX i j then some (.int (i * j)) else none) (.int i) (.int j) L) P
  unfold i2
  exact rw_i2c h hp
theorem rw_fdivI (h : j ≠ 0 ∧ j.natAbs < 1073741824) (hp : P (.int (i.fdiv j)) L) : Rw (fdivD (.int i) (.int j) L) P := by
  unfold fdivD i2
  exact rw_i2c h hp
theorem rw_modI (h : j ≠ 0) (hp : P (.int (i.fmod j)) L) : Rw (modD (.int i) (.int j) L) P := by
  unfold modD i2
  exact rw_i2c h hp
theorem rw_powI (h : CPow i j) (hp : P (.int (i ^ j.toNat)) L) : Rw (powD (.int i) (.int j) L) P := by
  unfold powD i2
  exact rw_i2c h hp
theorem rw_intI : Rw (intCD [.int i] L) P = P (.int i) L := rfl
theorem rw_absI : Rw (absD [.int i] L) P = P (.int (if i < 0 then -i else i)) L := rfl
theorem rw_lenT {xs : List D} : Rw (lenD [.tup xs] L) P = P (.int xs.length) L := rfl
theorem seq_lst {n : Nat} {xs : List D} (h : lstAt L n = some xs) : seqD L (.ref n) = some xs := h
theorem rw_lenL {n : Nat} {xs : List D} (h : lstAt L n = some xs) (hp : P (.int xs.length) L) : Rw (lenD [.ref n] L) P := by
  unfold lenD
  simp only [seq_lst h]
  exact hp
theorem rw_ixL {n : Nat} {xs : List D} {k : Nat} {d : D} (h : lstAt L n = some xs) (hd : xs[k]? = some d) (hi : i = k) (hp : P d L) : Rw (ixD (.ref n) (.int i) L) P := by
  subst hi
  unfold ixD
  have e : atI xs (k : Int) = some d := by
    have hk := (List.getElem?_eq_some_iff.mp hd).1
    unfold atI ixN
    rw [if_pos (Int.natCast_nonneg k), if_pos (by omega)]
    show xs[(k : Int).toNat]? = some d
    rw [Int.toNat_natCast]
    exact hd
  simp only [seq_lst h, e]
  exact hp
theorem rw_rng1 {P : Src → LH → Prop} (h : -100000 ≤ j ∧ j ≤ 100000) (hp : P (.rng 0 j.toNat) L) : Rw (rng1D [.int j] L) P := by
  unfold rng1D
  simp only [if_pos h]
  exact hp
theorem rng_at {n i : Nat} : Src.at L (.rng 0 n) i = some (((List.range n).map fun k => D.int (k : Nat))[i]?) := by
  show some (if i < n then some (D.int (0 + (i : Int))) else none) = _
  congr 1
  by_cases h : i < n
  · rw [if_pos h]
    simp [h]
  · rw [if_neg h]
    simp [h]
theorem rw_app {n : Nat} {xs : List D} {y : D} (h : L[n]? = some (.lst true xs)) (hl : xs.length < 100000) (hp : P .non (L.set n (.lst true (xs ++ [y])))) : Rw (appendD (.ref n) [y] L) P := by
  unfold appendD
  simp only [mut_of h, if_pos hl]
  exact hp
end
theorem isL_of {L : LH} {n : Nat} {b : Bool} {xs : List D} (h : L[n]? = some (.lst b xs)) : isL (.ref n) L = true := by
  show (lstAt L n).isSome = true
  rw [lst_of h]
  rfl
theorem if_sp {b : Bool} {p q : Prop} (h1 : b = true → p) (h2 : b = false → q) : if b = true then p else q := by
  cases b with
  | true => exact h1 rfl
  | false => exact h2 rfl
section
variable {P : D → LH → Prop} {L : LH} {i j : Int}
theorem rw_mulE (h : CMulX i j) : Rw (mulD (.int i) (.int j) L) P = P (.int (i * j)) L := by
  show Rw (i2 (fun i j => if CMulX i j then some (.int (i * j)) else none) (.int i) (.int j) L) P = _
  unfold i2
  simp only [if_pos h]
  rfl
theorem rw_fdivE (h : j ≠ 0 ∧ j.natAbs < 1073741824) : Rw (fdivD (.int i) (.int j) L) P = P (.int (i.fdiv j)) L := by
  unfold fdivD i2
  simp only [if_pos (show CDivN i j from h)]
  rfl
theorem rw_modE (h : j ≠ 0) : Rw (modD (.int i) (.int j) L) P = P (.int (i.fmod j)) L := by
  unfold modD i2
  simp only [if_pos h]
  rfl
end
end DI
set_option Elab.async false
set_option linter.all false
set_option maxRecDepth 100000
set_option maxHeartbeats 2000000
/-! Comprehensions; sorted, tuple, pop. -/
namespace DI
open PySem PySem.Spec PyProof.Rows L2 GxR
section
variable {P : D → LH → Prop} {L : LH} {i j : Int}
theorem rw_minI : Rw (min2D [.int i, .int j] L) P = P (.int (if j < i then j else i)) L := rfl
theorem rw_tupleL {n : Nat} {xs : List D} (h : lstAt L n = some xs) : Rw (tupleD [.ref n] L) P = P (.tup xs) L := by
  unfold tupleD
  simp only [seq_lst h]
  rfl
theorem rw_tupleT {xs : List D} : Rw (tupleD [.tup xs] L) P = P (.tup xs) L := rfl
theorem rw_sortedI {n : Nat} {ns : List Int} (h : lstAt L n = some (ns.map D.int)) : Rw (sortedD [.ref n] L) P = P (.ref L.length) (L ++ [.lst true ((sortI ns).map D.int)]) := by
  have e : areI [.ref n] L = true := by
    unfold areI
    simp only [h, intsD_map]
    rfl
  unfold sortedD
  rw [if_pos e]
  unfold sortedI
  simp only [h, intsD_map]
  rfl
theorem seqIndex_nat {k n : Nat} (h : k < n) : seqIndex? (k : Int) n = some k := by
  unfold seqIndex?
  have h1 : ¬ ((k : Int) < 0) := by omega
  simp only [if_neg h1]
  have h2 : (decide (0 ≤ (k : Int)) && decide ((k : Int) < (n : Int))) = true := by
    rw [Bool.and_eq_true]
    exact ⟨decide_eq_true (by omega), decide_eq_true (by omega)⟩
  rw [if_pos h2, Int.toNat_natCast]
theorem nat63 {k : Nat} (h : k < 100000) : -(2 ^ 63) ≤ (k : Int) ∧ (k : Int) < 2 ^ 63 := by
  have a : (k : Int) < 100000 := by omega
  constructor
  · exact Int.le_trans (by decide) (Int.natCast_nonneg k)
  · exact Int.lt_of_lt_of_le a (by decide)
theorem rw_popAt {n k : Nat} {xs : List D} {y : D} (h : L[n]? = some (.lst true xs)) (hd : xs[k]? = some y) (hi : i = k) (hl : xs.length ≤ 100000) (hp : P y (L.set n (.lst true (xs.eraseIdx k)))) : Rw (popAtD (.ref n) [.int i] L) P := by
  have hk := (List.getElem?_eq_some_iff.mp hd).1
  have e : seqIndex? i xs.length = some k := by rw [hi]; exact seqIndex_nat hk
  have c : -(2 ^ 63) ≤ i ∧ i < 2 ^ 63 := by rw [hi]; exact nat63 (Nat.lt_of_lt_of_le hk hl)
  clear hi
  unfold popAtD
  simp only [mut_of h]
  rw [if_pos c]
  simp only [e, hd]
  exact hp
/-- a comprehension whose elements are values -/
theorem rw_lc {mi : Sl → LH → R Src} {f : LH → Sl → D → Option Sl} {t : Sl → LH → R Bool} {m : Sl → LH → R D} {vs : List Nat} {env : Sl}
    (hi : Rw (mi env L) fun src L1 => ∃ (xs : List D) (tb : D → Bool) (g : D → D), xs.length ≤ 100000 ∧ (∀ L2, Ex' L1 L2 → ∀ i, i ≤ xs.length → src.at L2 i = some xs[i]?) ∧
      (∀ d ∈ xs, ∀ L2, Ex' L1 L2 → ∃ env1, f L2 (wipeE env vs) d = some env1 ∧ Rw (t env1 L2) fun b L3 => b = tb d ∧ Ex' L2 L3 ∧ (b = true → Rw (m env1 L3) fun e L4 => e = g d ∧ Ex' L3 L4)) ∧
      ∀ L2, Ex' L1 L2 → L2[L1.length]? = some (.lst true ((xs.filter tb).map g)) → P (.ref L1.length) L2) : Rw (eLc mi f t m vs env L) P := by
  unfold eLc
  rw [rw_bind]
  refine hi.mono fun src L1 h => ?_
  obtain ⟨xs, tb, g, hl, hat, hs, hP⟩ := h
  refine lcD_w (xs := xs) (fun i acc L2 => acc = ((xs.take i).filter tb).map g ∧ Ex' L1 L2 ∧ L2[L1.length]? = some (.lst true acc)) (fun i acc L2 h h2 => hat L2 h2.2.1 i h) hl (fun i acc L2 d e ha hI => ?_) (fun acc L2 ha hI => ?_) turnsN 0 [] _ (by simp [turnsN]; omega) (Nat.zero_le _) (Nat.zero_le _) ⟨rfl, Ex'.app, by simp⟩
  · obtain ⟨h1, h2, h3⟩ := hI
    have hd : d ∈ xs := List.mem_of_getElem? e
    obtain ⟨env1, e1, h4⟩ := hs d hd L2 h2
    refine ⟨env1, e1, rw_noX (h4.mono fun b L3 h5 => ?_)⟩
    obtain ⟨rfl, x3, h6⟩ := h5
    have etk : (xs.take (i + 1)).filter tb = (xs.take i).filter tb ++ (if tb d = true then [d] else []) := by
      rw [List.take_succ, e, List.filter_append]
      show _ ++ List.filter tb [d] = _
      cases z : tb d <;> simp [z]
    cases z : tb d with
    | true =>
      rw [if_pos rfl]
      refine rw_noX ((h6 z).mono fun y L4 h7 => ?_)
      obtain ⟨rfl, x4⟩ := h7
      have c4 := x4 _ _ (x3 _ _ h3)
      refine ⟨mut_of c4, ?_, ((h2.trans x3).trans x4).set (Nat.le_refl _), ?_⟩
      · rw [etk, z, if_pos rfl, List.map_append, h1]
        rfl
      · rw [List.getElem?_set_self (List.getElem?_eq_some_iff.mp c4).1]
    | false =>
      rw [if_neg (by decide)]
      refine ⟨?_, h2.trans x3, x3 _ _ h3⟩
      rw [etk, z, if_neg (by decide), List.append_nil]
      exact h1
  · obtain ⟨h1, h2, h3⟩ := hI
    rw [List.take_length] at h1
    rw [h1] at h3
    exact hP L2 h2 h3
end
end DI
set_option Elab.async false
set_option linter.all false
set_option maxRecDepth 100000
set_option maxHeartbeats 2000000
/-! == and in, on ints, texts, tuples of ints, anything with itself. -/
namespace DI
open PySem PySem.Spec PyProof.Rows L2 GxR
mutual
theorem eqv_refl : ∀ {p : PyData}, p.canLay0 = true → PyData.eqv p p = true
  | .none, _ => by unfold PyData.eqv; rfl
  | .bool b, _ => by unfold PyData.eqv; exact beq_self_eq_true b
  | .int i, _ => by unfold PyData.eqv; exact beq_self_eq_true i
  | .str x, _ => by unfold PyData.eqv; exact beq_self_eq_true x
  | .list xs, h => by
    unfold PyData.eqv
    unfold PyData.canLay0 at h
    exact eqvAll_refl h
  | .tuple xs, h => by
    unfold PyData.eqv
    unfold PyData.canLay0 at h
    exact eqvAll_refl h
  | .dict _, h => by
    unfold PyData.canLay0 at h
    cases h
theorem eqvAll_refl : ∀ {ps : List PyData}, PyData.canLayAll0 ps = true → PyData.eqvAll ps ps = true
  | [], _ => by unfold PyData.eqvAll; rfl
  | p :: ps, h => by
    unfold PyData.canLayAll0 at h
    rw [Bool.and_eq_true] at h
    unfold PyData.eqvAll
    rw [eqv_refl h.1, eqvAll_refl h.2]
    rfl
end
theorem eqvAll_ints : ∀ {ns ms : List Int}, PyData.eqvAll (ns.map PyData.int) (ms.map PyData.int) = decide (ns = ms)
  | [], [] => by unfold PyData.eqvAll; rfl
  | [], m :: ms => by simp [PyData.eqvAll]
  | n :: ns, [] => by simp [PyData.eqvAll]
  | n :: ns, m :: ms => by
    rw [List.map_cons, List.map_cons]
    unfold PyData.eqvAll
    rw [eqvAll_ints (ns := ns)]
    unfold PyData.eqv
    by_cases h : n = m
    · subst h
      simp
    · simp [h]
theorem canLay_ints : ∀ {ns : List Int}, PyData.canLayAll0 (ns.map PyData.int) = true
  | [] => by unfold PyData.canLayAll0; rfl
  | n :: ns => by
    rw [List.map_cons]
    unfold PyData.canLayAll0
    rw [canLay_ints (ns := ns)]
    rfl
theorem depth_ints : ∀ {ns : List Int}, PyData.depthAll (ns.map PyData.int) = 0
  | [] => by unfold PyData.depthAll; rfl
  | n :: ns => by
    rw [List.map_cons]
    unfold PyData.depthAll
    rw [depth_ints (ns := ns)]
    rfl
theorem mapO_ints {L : LH} {n : Nat} : ∀ {ns : List Int}, mapO (pd L (n + 1)) (ns.map D.int) = some (ns.map PyData.int)
  | [] => rfl
  | m :: ns => by
    rw [List.map_cons]
    unfold mapO
    rw [mapO_ints (ns := ns)]
    rfl
theorem pd_tupI {L : LH} {n : Nat} {ns : List Int} : pd L (n + 2) (tupI ns) = some (.tuple (ns.map PyData.int)) := by
  show (mapO (pd L (n + 1)) (ns.map D.int)).map PyData.tuple = _
  rw [mapO_ints]
  rfl
def ptI (ns : List Int) : PyData := .tuple (ns.map PyData.int)
theorem mapO_tups {L : LH} {n : Nat} : ∀ {ks : List (List Int)}, mapO (pd L (n + 2)) (ks.map tupI) = some (ks.map ptI)
  | [] => rfl
  | k :: ks => by
    rw [List.map_cons]
    unfold mapO
    rw [mapO_tups (ks := ks), pd_tupI]
    rfl
theorem canLay_ptI {ns : List Int} : (ptI ns).canLay0 = true := by
  unfold ptI PyData.canLay0
  exact canLay_ints
theorem shaped_ptI {ns : List Int} : SeqAt.shaped (ptI ns) = true := by
  unfold SeqAt.shaped
  rw [canLay_ptI]
  unfold ptI PyData.depth
  rw [depth_ints]
  rfl
theorem canLay_tups : ∀ {ks : List (List Int)}, PyData.canLayAll0 (ks.map ptI) = true
  | [] => by unfold PyData.canLayAll0; rfl
  | k :: ks => by
    rw [List.map_cons]
    unfold PyData.canLayAll0
    rw [canLay_tups (ks := ks), canLay_ptI]
    rfl
theorem depth_tups : ∀ {ks : List (List Int)}, PyData.depthAll (ks.map ptI) ≤ 1
  | [] => by unfold PyData.depthAll; exact Nat.zero_le _
  | k :: ks => by
    rw [List.map_cons]
    unfold PyData.depthAll
    have h := depth_tups (ks := ks)
    have h2 : (ptI k).depth = 1 := by
      unfold ptI PyData.depth
      rw [depth_ints]
    omega
theorem shaped_tups {ks : List (List Int)} : SeqAt.shaped (.list (ks.map ptI)) = true := by
  unfold SeqAt.shaped
  have h := depth_tups (ks := ks)
  rw [Bool.and_eq_true]
  refine ⟨?_, decide_eq_true ?_⟩
  · unfold PyData.canLay0
    exact canLay_tups
  · unfold PyData.depth
    omega
theorem eqv_ptI {ns ms : List Int} : PyData.eqv (ptI ns) (ptI ms) = decide (ns = ms) := by
  unfold ptI PyData.eqv
  exact eqvAll_ints
section
variable {P : D → LH → Prop} {L : LH} {i j : Int}
theorem pd2_of {d e : D} {p q : PyData} (h1 : pd L deepN d = some p) (h2 : pd L deepN e = some q) (h3 : SeqAt.shaped p = true) (h4 : SeqAt.shaped q = true) : pd2 L d e = some (p, q) := by
  unfold pd2
  rw [h1, h2]
  simp only [h3, h4]
  rfl
theorem shaped_int : SeqAt.shaped (.int i) = true := rfl
theorem eqv_int : PyData.eqv (.int i) (.int j) = decide (i = j) := by
  unfold PyData.eqv
  rfl
theorem rw_eq {d e : D} {p q : PyData} (h1 : pd L deepN d = some p) (h2 : pd L deepN e = some q) (h3 : SeqAt.shaped p = true) (h4 : SeqAt.shaped q = true) : Rw (eqD d e L) P = P (.bl (PyData.eqv p q)) L := by
  unfold eqD
  simp only [pd2_of h1 h2 h3 h4]
  rfl
theorem rw_ne {d e : D} {p q : PyData} (h1 : pd L deepN d = some p) (h2 : pd L deepN e = some q) (h3 : SeqAt.shaped p = true) (h4 : SeqAt.shaped q = true) : Rw (neD d e L) P = P (.bl (!PyData.eqv p q)) L := by
  unfold neD
  simp only [pd2_of h1 h2 h3 h4]
  rfl
theorem rw_eqI : Rw (eqD (.int i) (.int j) L) P = P (.bl (decide (i = j))) L := by
  rw [rw_eq (p := .int i) (q := .int j) rfl rfl rfl rfl, eqv_int]
theorem rw_neI : Rw (neD (.int i) (.int j) L) P = P (.bl (!decide (i = j))) L := by
  rw [rw_ne (p := .int i) (q := .int j) rfl rfl rfl rfl, eqv_int]
theorem rw_neT {ns ms : List Int} : Rw (neD (tupI ns) (tupI ms) L) P = P (.bl (!decide (ns = ms))) L := by
  rw [rw_ne (p := ptI ns) (q := ptI ms) pd_tupI pd_tupI shaped_ptI shaped_ptI, eqv_ptI]
theorem any_tups {k : List Int} : ∀ {ks : List (List Int)}, ((ks.map ptI).any fun z => PyData.eqv z (ptI k)) = decide (k ∈ ks)
  | [] => rfl
  | x :: ks => by
    rw [List.map_cons, List.any_cons, any_tups (ks := ks), eqv_ptI]
    by_cases h : x = k
    · subst h
      simp
    · have h' : ¬ k = x := fun e => h e.symm
      simp [h, h']
/-- t not in xs: a tuple of ints, a list of them -/
theorem rw_ninT {n : Nat} {k : List Int} {ks : List (List Int)} (h : lstAt L n = some (ks.map tupI)) : Rw (inD true (tupI k) (.ref n) L) P = P (.bl (!decide (k ∈ ks))) L := by
  have hp : pd L deepN (.ref n) = some (.list (ks.map ptI)) := by
    show (match lstAt L n with | some xs => (mapO (pd L 11) xs).map PyData.list | none => none) = _
    rw [h]
    simp only [mapO_tups (n := 9)]
    rfl
  show Rw (inDp true (tupI k) (.ref n) L) P = _
  unfold inDp
  simp only [pd2_of (p := ptI k) (q := .list (ks.map ptI)) pd_tupI hp shaped_ptI shaped_tups, any_tups]
  rfl
theorem rw_sortedT {n : Nat} {ks : List (List Int)} (h : lstAt L n = some (ks.map tupI)) (hn : ks.length < 2 ∨ [] ∉ ks) (hp : P (.ref L.length) (L ++ [.lst true ((sortL ks).map tupI)])) : Rw (sortedD [.ref n] L) P := by
  have td : ∀ ks : List (List Int), tupsD (ks.map tupI) = some ks := fun ks => by
    induction ks with
    | nil => rfl
    | cons k ks ih =>
      rw [List.map_cons]
      show (match intsD (k.map D.int), tupsD (ks.map tupI) with | some k, some ks => some (k :: ks) | _, _ => none) = _
      rw [intsD_map, ih]
  cases ks with
  | nil => 
    have e : areI [.ref n] L = true := by
      unfold areI
      simp only [h]
      rfl
    unfold sortedD
    rw [if_pos e]
    unfold sortedI
    simp only [h]
    exact hp
  | cons k ks =>
    have e : areI [.ref n] L = false := by
      unfold areI
      simp only [h]
      rfl
    unfold sortedD
    rw [if_neg (by rw [e]; decide)]
    unfold sortedT
    simp only [h, td]
    rw [if_pos hn]
    exact hp
end
theorem rw_bAnd {m n : Sl → LH → R Bool} {env : Sl} {L : LH} {P : Bool → LH → Prop} : Rw (bAnd m n env L) P = Rw (m env L) fun b L => if b = true then Rw (n env L) P else P false L := by
  unfold bAnd
  rw [rw_bind]
  congr 1
  funext b L
  split <;> rfl
theorem rw_shrI {P : D → LH → Prop} {L : LH} {i j : Int} (h : 0 ≤ j) : Rw (shrD (.int i) (.int j) L) P = P (.int (i / 2 ^ j.toNat)) L := by
  unfold shrD i2
  simp only [if_pos h]
  rfl
theorem rw_truL {ma : Sl → LH → R D} {env : Sl} {L : LH} {P : Bool → LH → Prop} : Rw (bTru ma env L) P = Rw (ma env L) fun d L => match truD L d with | some b => P b L | none => False := by
  unfold bTru
  rw [rw_bind]
  congr 1
  funext d L
  cases truD L d <;> rfl
end DI
set_option Elab.async false
set_option linter.all false
set_option maxRecDepth 100000
set_option maxHeartbeats 2000000
/-! New lists, slices, sums of lists: the heap is told only by what it keeps. -/
namespace DI
open PySem PySem.Spec PyProof.Rows L2 GxR
section
variable {P : D → LH → Prop} {L : LH} {env : Sl} {i j : Int}
theorem rw_lstW {m : Sl → LH → DI.R (List D)} (h : Rw (m env L) fun ds L1 => ds.length ≤ 100000 ∧ ∀ L2, Ex' L1 L2 → L2[L1.length]? = some (.lst true ds) → P (.ref L1.length) L2) : Rw (eLst m env L) P := by
  rw [rw_lst]
  refine h.mono fun ds L1 q => ?_
  rw [if_pos q.1]
  exact q.2 _ Ex'.app (by simp)
theorem rw_sl {ma : Sl → LH → DI.R D} {ml mh : Sl → LH → DI.R (Option Int)} : Rw (eSl ma ml mh env L) P = Rw (ma env L) fun d L => Rw (ml env L) fun lo L => Rw (mh env L) fun hi L => Rw (slD d lo hi L) P := by
  unfold eSl
  rw [rw_bind]
  congr 1
  funext d L
  rw [rw_bind]
  congr 1
  funext d L
  rw [rw_bind]
theorem rw_oS {ma : Sl → LH → DI.R D} {P : Option Int → LH → Prop} : Rw (oSome ma env L) P = Rw (ma env L) fun d L => match d with | .int i => P (some i) L | _ => False := by
  unfold oSome
  rw [rw_bind]
  congr 1
  funext d L
  cases d <;> rfl
theorem rw_oN {P : Option Int → LH → Prop} : Rw (oNone env L) P = P none L := rfl
theorem rw_slW {n : Nat} {xs : List D} {lo hi : Option Int} (h : lstAt L n = some xs) (hp : ∀ L2, Ex' L L2 → L2[L.length]? = some (.lst true (cutA xs lo hi)) → P (.ref L.length) L2) : Rw (slD (.ref n) lo hi L) P := by
  unfold slD
  simp only [h]
  exact hp _ Ex'.app (by simp)
theorem rw_addW {n m : Nat} {x y : List D} (h1 : L[n]? = some (.lst true x)) (h2 : L[m]? = some (.lst true y)) (hl : x.length + y.length ≤ 100000) (hp : ∀ L2, Ex' L L2 → L2[L.length]? = some (.lst true (x ++ y)) → P (.ref L.length) L2) : Rw (addD (.ref n) (.ref m) L) P := by
  show Rw (addLst (.ref n) (.ref m) L) P
  unfold addLst
  simp only [mut_of h1, mut_of h2, if_pos hl]
  exact hp _ Ex'.app (by simp)
theorem rw_repW {n : Nat} {xs : List D} {k : Nat} (h : L[n]? = some (.lst true xs)) (hi : i = k) (hk : k < 100000) (hl : xs.length * k ≤ 100000) (hp : ∀ L2, Ex' L L2 → L2[L.length]? = some (.lst true (List.replicate k xs).flatten) → P (.ref L.length) L2) : Rw (mulD (.ref n) (.int i) L) P := by
  show Rw (repD (.ref n) (.int i) L) P
  have e : i.toNat = k := by rw [hi, Int.toNat_natCast]
  have c : i < 100000 ∧ -100000 < i ∧ xs.length * i.toNat ≤ 100000 := ⟨by omega, by omega, by rw [e]; exact hl⟩
  unfold repD
  simp only [mut_of h]
  rw [if_pos c, e]
  exact hp _ Ex'.app (by simp)
theorem rw_shlE (h : CPow i j) : Rw (shlD (.int i) (.int j) L) P = P (.int (i * 2 ^ j.toNat)) L := by
  unfold shlD i2
  simp only [if_pos h]
  rfl
theorem cut_at {α : Type} {xs : List α} {a b : Nat} (h1 : a ≤ b) (h2 : b ≤ xs.length) : cutA xs (some (a : Int)) (some (b : Int)) = (xs.drop a).take (b - a) := by
  have e : ∀ c d : Nat, c ≤ xs.length → HT.sIx xs.length d (some (c : Int)) = c := fun c d hc => by
    rw [HT.sIx_nat]
    omega
  unfold cutA
  rw [e a 0 (by omega), e b xs.length h2]
theorem rw_strEq {x y : PySem.Str} (hx : PyData.strOk x = true) (hy : PyData.strOk y = true) : Rw (eqD (.str x) (.str y) L) P = P (.bl (x == y)) L := by
  rw [rw_eq (p := .str x) (q := .str y) rfl rfl (by unfold SeqAt.shaped PyData.canLay0 PyData.depth; rw [hx]; rfl) (by unfold SeqAt.shaped PyData.canLay0 PyData.depth; rw [hy]; rfl)]
  unfold PyData.eqv
  rfl
end
theorem if_len {ds : List D} {n : Nat} {p : Prop} (h : ds.length = n) (hp : p) : if ds.length = n then p else False := by
  rw [if_pos h]
  exact hp
theorem if_le {ds : List D} {n : Nat} {p : Prop} (h : ds.length ≤ n) (hp : p) : if ds.length ≤ n then p else False := by
  rw [if_pos h]
  exact hp
theorem rw_srcL {P : Src → LH → Prop} {L : LH} {n : Nat} {xs : List D} (h : lstAt L n = some xs) (hp : P (.one (.l n)) L) : Rw (srcD (.ref n) L) P := by
  show Rw (match lstAt L n with | some _ => .ok (.one (.l n)) L | none => .bad) P
  rw [h]
  exact hp
theorem rw_srcT {P : Src → LH → Prop} {L : LH} {xs : List D} (hp : P (.one (.t xs)) L) : Rw (srcD (.tup xs) L) P := hp
theorem src_atL {L : LH} {n i : Nat} {xs : List D} (h : lstAt L n = some xs) : Src.at L (.one (.l n)) i = some xs[i]? := by
  show (match lstAt L n with | some xs => some xs[i]? | none => none) = _
  rw [h]
theorem src_atT {L : LH} {i : Nat} {xs : List D} : Src.at L (.one (.t xs)) i = some xs[i]? := rfl
theorem rw_ixT {P : D → LH → Prop} {L : LH} {i : Int} {xs : List D} {k : Nat} {d : D} (hd : xs[k]? = some d) (hi : i = k) (hp : P d L) : Rw (ixD (.tup xs) (.int i) L) P := by
  subst hi
  have e : atI xs (k : Int) = some d := by
    have hk := (List.getElem?_eq_some_iff.mp hd).1
    unfold atI ixN
    rw [if_pos (Int.natCast_nonneg k), if_pos (by omega)]
    show xs[(k : Int).toNat]? = some d
    rw [Int.toNat_natCast]
    exact hd
  unfold ixD
  simp only [seqD, e]
  exact hp
end DI
set_option Elab.async false
set_option linter.all false
set_option maxRecDepth 100000
set_option maxHeartbeats 2000000
/-! all, any; more words. -/
namespace DI
open PySem PySem.Spec PyProof.Rows L2 GxR
section
variable {P : D → LH → Prop} {L : LH} {env : Sl} {i j : Int}
theorem agD_w {src : Src} {f : LH → Sl → D → Option Sl} {m : Sl → LH → DI.R D} {b0 : Bool} {xs : List D} {tb : D → Bool} {L1 : LH} (hat : ∀ L2, Ex' L1 L2 → ∀ i, i ≤ xs.length → src.at L2 i = some xs[i]?)
    (hs : ∀ d ∈ xs, ∀ L2, Ex' L1 L2 → ∃ env1, f L2 env d = some env1 ∧ Rw (m env1 L2) fun y L3 => y = .bl (tb d) ∧ Ex' L2 L3) (hP : ∀ L2, Ex' L1 L2 → P (.bl (if b0 = true then xs.all tb else xs.any tb)) L2) :
    ∀ n i L2, xs.length < n + i → i ≤ xs.length → Ex' L1 L2 → (∀ d ∈ xs.take i, tb d = b0) → Rw (agD src f m b0 env n i L2) P
  | 0, i, L2, h1, h2, _, _ => absurd h1 (by omega)
  | n + 1, i, L2, h1, h2, x, hb => by
    unfold agD
    rw [hat L2 x i h2]
    cases e : xs[i]? with
    | none =>
      have hl : xs.length ≤ i := List.getElem?_eq_none_iff.mp e
      rw [List.take_of_length_le hl] at hb
      have r : (if b0 = true then xs.all tb else xs.any tb) = b0 := by
        cases b0 with
        | true =>
          rw [if_pos rfl]
          exact List.all_eq_true.mpr hb
        | false =>
          rw [if_neg (by decide)]
          exact List.any_eq_false.mpr fun d hd => by rw [hb d hd]; decide
      have q := hP L2 x
      rw [r] at q
      exact q
    | some d =>
      have hd : d ∈ xs := List.mem_of_getElem? e
      have hi : i < xs.length := (List.getElem?_eq_some_iff.mp e).1
      obtain ⟨env1, e1, h⟩ := hs d hd L2 x
      simp only [e1]
      rw [rw_bind]
      refine h.mono fun y L3 h => ?_
      obtain ⟨rfl, x3⟩ := h
      by_cases c : tb d = b0
      · simp only [if_pos c]
        refine agD_w hat hs hP n (i + 1) L3 (by omega) (by omega) (x.trans x3) fun d2 h2 => ?_
        rw [List.take_succ, e] at h2
        rcases List.mem_append.mp h2 with z | z
        · exact hb d2 z
        · have : d2 = d := by simpa using z
          rw [this]
          exact c
      · simp only [if_neg c]
        have r : (if b0 = true then xs.all tb else xs.any tb) = !b0 := by
          cases b0 with
          | true =>
            rw [if_pos rfl]
            exact List.all_eq_false.mpr ⟨d, hd, c⟩
          | false =>
            rw [if_neg (by decide)]
            exact List.any_eq_true.mpr ⟨d, hd, by simpa using c⟩
        have q := hP L3 (x.trans x3)
        rw [r] at q
        exact q
/-- all(..), any(..) -/
theorem rw_ag {mi : Sl → LH → DI.R Src} {f : LH → Sl → D → Option Sl} {m : Sl → LH → DI.R D} {b0 : Bool} {capt : List (Option Nat)}
    (hi : Rw (mi env L) fun src L1 => ∃ (xs : List D) (tb : D → Bool), xs.length ≤ 100000 ∧ (∀ L2, Ex' L1 L2 → ∀ i, i ≤ xs.length → src.at L2 i = some xs[i]?) ∧
      (∀ d ∈ xs, ∀ L2, Ex' L1 L2 → ∃ env1, f L2 (capE capt env) d = some env1 ∧ Rw (m env1 L2) fun y L3 => y = .bl (tb d) ∧ Ex' L2 L3) ∧ ∀ L2, Ex' L1 L2 → P (.bl (if b0 = true then xs.all tb else xs.any tb)) L2) : Rw (eAg b0 mi f m capt env L) P := by
  unfold eAg
  rw [rw_bind]
  refine hi.mono fun src L1 h => ?_
  obtain ⟨xs, tb, hl, hat, hs, hP⟩ := h
  exact agD_w hat (fun d hd L2 x => by
    obtain ⟨env1, e, h⟩ := hs d hd L2 x
    exact ⟨env1, e, rw_noX h⟩) hP turnsN 0 L1 (by simp [turnsN]; omega) (Nat.zero_le _) Ex'.refl (fun d hd => absurd hd (by simp))
theorem rw_and {ma mb : Sl → LH → DI.R D} : Rw (eAnd ma mb env L) P = Rw (ma env L) fun d L => match d with | .bl b => if b = true then Rw (mb env L) P else P (.bl false) L | _ => False := by
  unfold eAnd
  rw [rw_bind]
  congr 1
  funext d L
  cases d with
  | bl b => cases b <;> rfl
  | _ => rfl
theorem rw_notE {ma : Sl → LH → DI.R D} : Rw (eNot ma env L) P = Rw (ma env L) fun d L => match d with | .bl b => P (.bl (!b)) L | _ => False := by
  unfold eNot
  rw [rw_bind]
  congr 1
  funext d L
  cases d <;> rfl
theorem rw_rng2 {P : Src → LH → Prop} (h : -100000 ≤ i ∧ i ≤ 100000 ∧ -100000 ≤ j ∧ j ≤ 100000) (hp : P (.rng i (j - i).toNat) L) : Rw (rng2D [.int i, .int j] L) P := by
  unfold rng2D
  simp only [if_pos h]
  exact hp
theorem rng_at2 {n k : Nat} {lo : Int} : Src.at L (.rng lo n) k = some (((List.range n).map fun k => D.int (lo + (k : Nat)))[k]?) := by
  show some (if k < n then some (D.int (lo + (k : Int))) else none) = _
  congr 1
  by_cases h : k < n
  · rw [if_pos h]
    simp [h]
  · rw [if_neg h]
    simp [h]
end
/-- d is a tuple or a list of these -/
inductive Is (L : LH) : D → List D → Prop
  | tup (xs : List D) : Is L (.tup xs) xs
  | lst {n : Nat} {xs : List D} : lstAt L n = some xs → Is L (.ref n) xs
section
variable {P : D → LH → Prop} {L : LH} {d : D} {xs : List D}
theorem Is.mono {L2 : LH} (h : Is L d xs) (x : Ex' L L2) : Is L2 d xs := by
  cases h with
  | tup => exact .tup _
  | lst q => exact .lst (x.lst q)
theorem Is.seq (h : Is L d xs) : seqD L d = some xs := by
  cases h with
  | tup => rfl
  | lst q => exact q
theorem rw_lenS (h : Is L d xs) (hp : P (.int xs.length) L) : Rw (lenD [d] L) P := by
  cases h with
  | tup => exact hp
  | lst q => exact rw_lenL q hp
theorem rw_ixS {k : Nat} {e : D} {i : Int} (h : Is L d xs) (hd : xs[k]? = some e) (hi : i = k) (hp : P e L) : Rw (ixD d (.int i) L) P := by
  cases h with
  | tup => exact rw_ixT hd hi hp
  | lst q => exact rw_ixL q hd hi hp
theorem rw_srcS {P : Src → LH → Prop} (h : Is L d xs) (hp : ∀ s, (∀ L2, Ex' L L2 → ∀ i, i ≤ xs.length → Src.at L2 s i = some xs[i]?) → P s L) : Rw (srcD d L) P := by
  cases h with
  | tup => exact rw_srcT (hp _ fun L2 _ i _ => src_atT)
  | lst q => exact rw_srcL q (hp _ fun L2 x i _ => src_atL (x.lst q))
end
end DI
set_option Elab.async false
set_option linter.all false
set_option maxRecDepth 100000
set_option maxHeartbeats 2000000
/-! Instances: made, their fields set and read. -/
namespace DI
open PySem PySem.Spec PyProof.Rows L2 GxR
section
variable {P : D → LH → Prop} {L : LH} {env : Sl} {i j : Int} {Ps : Sl → LH → Prop} {Qs : D → LH → Prop} {cf : Addr → PySem.Str → Bool} {f : PySem.Str} {C : Addr} {fs : List (PySem.Str × D)} {n : Nat}
theorem ins_of (h : L[n]? = some (.ins C fs)) : insAt L n = some (C, fs) := by
  unfold insAt
  rw [h]
theorem sw_fldS {ma mv : Sl → LH → DI.R D} (h : Rw (mv env L) fun y L1 => Rw (ma env L1) fun d L2 => ∃ n C fs, d = .ref n ∧ L2[n]? = some (.ins C fs) ∧ fs.length < 1000 ∧ cf C f = true ∧ Ps env (L2.set n (.ins C (putD f y fs)))) : Sw (sFldS cf f ma mv env L) Ps Qs := by
  unfold sFldS
  rw [sw_eS]
  refine h.mono fun y L1 h => ?_
  rw [sw_eS]
  refine h.mono fun d L2 h => ?_
  obtain ⟨n, C, fs, rfl, h1, h2, h3, h4⟩ := h
  simp only [ins_of h1]
  rw [if_pos ⟨h2, h3⟩]
  exact h4
theorem rw_fld {ma : Sl → LH → DI.R D} (h : Rw (ma env L) fun d L1 => ∃ n C fs e, d = .ref n ∧ L1[n]? = some (.ins C fs) ∧ fs.lookup f = some e ∧ cf C f = true ∧ P e L1) : Rw (eFld cf f ma env L) P := by
  unfold eFld
  rw [rw_bind]
  refine h.mono fun d L1 h => ?_
  obtain ⟨n, C, fs, e, rfl, h1, h2, h3, h4⟩ := h
  simp only [ins_of h1, h2, h3]
  exact h4
theorem rw_fnS {N : List PySem.Str} {F0 : Fn} {np0 : Nat} {a : Sl → LH → DI.R (List D)} {m : Sl → LH → RS} {ds : List D} (h : L[n]? = some (.ins C fs))
    (ha : Rw (a (startE N (.ref n :: ds)) L) fun es L1 => es.length + 1 = np0 ∧ Rw (F0 (.ref n :: es) L1) fun _ L2 => Rw (fnD N m (.ref n :: ds) L2) P) : Rw (fnS C N F0 np0 a m (.ref n :: ds) L) P := by
  unfold fnS
  simp only [ins_of h]
  rw [if_pos trivial, rw_bind]
  refine rw_noX (ha.mono fun es L1 h1 => ?_)
  rw [if_pos h1.1, rw_bind]
  exact rw_noX (h1.2.mono fun _ L2 h2 => rw_noX h2)
theorem rw_mk {np : Nat} {F : Fn} {m : Sl → LH → DI.R (List D)} (h : Rw (m env L) fun ds L1 => ds.length + 1 = np ∧ Rw (F (.ref L1.length :: ds) (L1 ++ [.ins C []])) fun r L2 => r = .non ∧ P (.ref L1.length) L2) : Rw (eMk C np F m env L) P := by
  unfold eMk
  rw [rw_bind]
  refine h.mono fun ds L1 h => ?_
  rw [if_pos h.1, rw_bind]
  refine h.2.mono fun r L2 h2 => ?_
  rw [h2.1]
  exact h2.2
theorem rw_bOr {m n : Sl → LH → DI.R Bool} {P : Bool → LH → Prop} : Rw (bOr m n env L) P = Rw (m env L) fun b L => if b = true then P true L else Rw (n env L) P := by
  unfold bOr
  rw [rw_bind]
  congr 1
  funext b L
  split <;> rfl
theorem sw_try {m : Sl → LH → RS} (h : Sw (m env L) Ps Qs) : Sw (sTry m env L) Ps Qs := by
  unfold sTry
  cases z : m env L with
  | exc x e L2 => rw [z] at h; exact h.elim
  | _ => rw [z] at h; exact h
end
end DI
set_option Elab.async false
set_option linter.all false
set_option maxRecDepth 100000
set_option maxHeartbeats 2000000
/-! A comprehension whose elements are told by a relation (new lists, instances). -/
namespace DI
open PySem PySem.Spec PyProof.Rows L2 GxR
/-- each cell but n0 stays -/
def ExB (n0 : Nat) (L L' : LH) : Prop := ∀ (i : Nat) (c : Cell), i ≠ n0 → L[i]? = some c → L'[i]? = some c
theorem Ex'.exB {n0 : Nat} {L L' : LH} (x : Ex' L L') : ExB n0 L L' := fun i c _ h => x i c h
/-- item by item -/
def Al2 (R : D → D → Prop) (xs es : List D) : Prop := es.length = xs.length ∧ ∀ (i : Nat) (d e : D), xs[i]? = some d → es[i]? = some e → R d e
section
variable {P : D → LH → Prop} {L : LH}
theorem rw_lcR {mi : Sl → LH → DI.R Src} {f : LH → Sl → D → Option Sl} {t : Sl → LH → DI.R Bool} {m : Sl → LH → DI.R D} {vs : List Nat} {env : Sl}
    (hi : Rw (mi env L) fun src L1 => ∃ (xs : List D) (Rel : LH → D → D → Prop), xs.length ≤ 100000 ∧ (∀ L2, Ex' L1 L2 → ∀ i, i ≤ xs.length → src.at L2 i = some xs[i]?) ∧
      (∀ d e L2 L3, ExB L1.length L2 L3 → Rel L2 d e → Rel L3 d e) ∧
      (∀ d ∈ xs, ∀ L2, Ex' L1 L2 → L1.length < L2.length → ∃ env1, f L2 (wipeE env vs) d = some env1 ∧ Rw (t env1 L2) fun b L3 => b = true ∧ Ex' L2 L3 ∧ Rw (m env1 L3) fun e L4 => Ex' L3 L4 ∧ Rel L4 d e) ∧
      ∀ L2 es, Ex' L1 L2 → L2[L1.length]? = some (.lst true es) → Al2 (Rel L2) xs es → P (.ref L1.length) L2) : Rw (eLc mi f t m vs env L) P := by
  unfold eLc
  rw [rw_bind]
  refine hi.mono fun src L1 h => ?_
  obtain ⟨xs, Rel, hl, hat, mono, hs, hP⟩ := h
  refine lcD_w (xs := xs) (fun i acc L2 => acc.length = i ∧ Ex' L1 L2 ∧ L2[L1.length]? = some (.lst true acc) ∧ ∀ (j : Nat) (d e : D), xs[j]? = some d → acc[j]? = some e → Rel L2 d e) (fun i acc L2 h h2 => hat L2 h2.2.1 i h) hl (fun i acc L2 d e ha hI => ?_) (fun acc L2 ha hI => ?_) turnsN 0 [] _ (by simp [turnsN]; omega) (Nat.zero_le _) (Nat.zero_le _) ⟨rfl, Ex'.app, by simp, fun j d e _ h => by simp at h⟩
  · obtain ⟨h1, h2, h3, h4⟩ := hI
    have hd : d ∈ xs := List.mem_of_getElem? e
    have hn0 : L1.length < L2.length := (List.getElem?_eq_some_iff.mp h3).1
    obtain ⟨env1, e1, h5⟩ := hs d hd L2 h2 hn0
    refine ⟨env1, e1, rw_noX (h5.mono fun b L3 h6 => ?_)⟩
    obtain ⟨rfl, x3, h7⟩ := h6
    rw [if_pos rfl]
    refine rw_noX (h7.mono fun y L4 h8 => ?_)
    obtain ⟨x4, hr⟩ := h8
    have c4 := x4 _ _ (x3 _ _ h3)
    have hlt : L1.length < L4.length := (List.getElem?_eq_some_iff.mp c4).1
    have xb : ExB L1.length L4 (L4.set L1.length (.lst true (acc ++ [y]))) := fun k c ne hk => by
      rw [List.getElem?_set_ne (Ne.symm ne)]
      exact hk
    refine ⟨mut_of c4, by rw [List.length_append, List.length_singleton, h1], ((h2.trans x3).trans x4).set (Nat.le_refl _), List.getElem?_set_self hlt, fun j d2 e2 q1 q2 => ?_⟩
    by_cases c : j < acc.length
    · rw [List.getElem?_append_left c] at q2
      exact mono _ _ _ _ xb (mono _ _ _ _ (x3.trans x4).exB (h4 j d2 e2 q1 q2))
    · have hj : j = i := by
        have := (List.getElem?_eq_some_iff.mp q2).1
        rw [List.length_append, List.length_singleton] at this
        omega
      subst hj
      rw [e] at q1
      cases q1
      rw [List.getElem?_append_right (by omega), h1, Nat.sub_self] at q2
      cases q2
      exact mono _ _ _ _ xb hr
  · obtain ⟨h1, h2, h3, h4⟩ := hI
    exact hP L2 acc h2 h3 ⟨h1, h4⟩
end
end DI
set_option Elab.async false
set_option linter.all false
set_option maxRecDepth 100000
set_option maxHeartbeats 2000000
/-! What many laws want: fields and methods, marks in rows, the last item, the same data. -/
namespace DI
open PySem PySem.Spec PyProof.Rows L2 GxR
theorem map_at {ns : List Int} {k : Nat} {d : Int} (h : ns[k]? = some d) : (ns.map D.int)[k]? = some (.int d) := by
  rw [List.getElem?_map, h]
  rfl
theorem rw_me {M : MT} {mn : PySem.Str} {ma : Sl → LH → DI.R D} {m : Sl → LH → DI.R (List D)} {env : Sl} {L : LH} {P : D → LH → Prop}
    (h : Rw (ma env L) fun d L1 => ∃ n C fs np F, d = .ref n ∧ L1[n]? = some (.ins C fs) ∧ fs.lookup mn = none ∧ M C = some (np, F) ∧ Rw (m env L1) fun ds L2 => ds.length + 1 = np ∧ Rw (F (.ref n :: ds) L2) P) : Rw (eMe M mn ma m env L) P := by
  unfold eMe
  rw [rw_bind]
  refine h.mono fun d L1 q => ?_
  obtain ⟨n, C, fs, np, F, rfl, h1, h2, h3, h4⟩ := q
  simp only [ins_of h1, h2, h3]
  rw [rw_bind]
  refine h4.mono fun ds L2 q => ?_
  rw [if_pos q.1]
  exact q.2
theorem sw_set {mo mi m : Sl → LH → DI.R D} {env : Sl} {L : LH} {Ps : Sl → LH → Prop} {Qs : D → LH → Prop}
    (h : Rw (m env L) fun y L1 => Rw (mo env L1) fun d L2 => Rw (mi env L2) fun i L3 => ∃ (n k : Nat) (xs : List D), d = .ref n ∧ i = .int k ∧ L3[n]? = some (.lst true xs) ∧ k < xs.length ∧ Ps env (L3.set n (.lst true (xs.set k y)))) : Sw (sSet mo mi m env L) Ps Qs := by
  unfold sSet
  rw [sw_eS]
  refine h.mono fun y L1 h => ?_
  rw [sw_eS]
  refine h.mono fun d L2 h => ?_
  rw [sw_eS]
  refine h.mono fun i L3 h => ?_
  obtain ⟨n, k, xs, rfl, rfl, h1, h2, h3⟩ := h
  have e : ixN xs.length (k : Int) = some k := by
    unfold ixN
    rw [if_pos (Int.natCast_nonneg k), if_pos (by omega), Int.toNat_natCast]
  simp only [mut_of h1, e]
  exact h3
theorem D_int_inj : ∀ {x y : List Int}, x.map D.int = y.map D.int → x = y
  | [], [], _ => rfl
  | [], _ :: _, h => by cases h
  | _ :: _, [], h => by cases h
  | x :: xs, y :: ys, h => by
    rw [List.map_cons, List.map_cons] at h
    injection h with h1 h2
    rw [D.int.inj h1, D_int_inj h2]
theorem sw_asgE {m : Sl → LH → DI.R D} {f : LH → Sl → D → Option Sl} {env : Sl} {L : LH} {P : Sl → LH → Prop} {Q : D → LH → Prop} (h : Rw (m env L) fun d L1 => ∃ e, f L1 env d = some e ∧ P e L1) : Sw (sAsg m f env L) P Q := by
  rw [sw_asg]
  refine h.mono fun d L1 q => ?_
  obtain ⟨e, e1, e2⟩ := q
  rw [e1]
  exact e2
theorem rw_listD {P : D → LH → Prop} {L : LH} {d : D} {xs : List D} (h : Is L d xs) (hp : ∀ L2, Ex' L L2 → L2[L.length]? = some (.lst true xs) → P (.ref L.length) L2) : Rw (listD [d] L) P := by
  unfold listD
  simp only [h.seq]
  exact hp _ Ex'.app (by simp)
theorem rw_ltT {P : D → LH → Prop} {L : LH} {a b : List Int} : Rw (ltD (tupI a) (tupI b) L) P = P (.bl (HT.lexLt a b)) L := by
  show Rw (ltTup (tupI a) (tupI b) L) P = _
  unfold ltTup tupI
  simp only [intsD_map]
  rfl
theorem rw_chain {f f' : D → D → LH → DI.R D} {ma mb mc : Sl → LH → DI.R D} {env : Sl} {L : LH} {P : D → LH → Prop} : Rw (eChain f f' ma mb mc env L) P = Rw (ma env L) fun d L => Rw (mb env L) fun e L => Rw (f d e L) fun z L => match z with
    | .bl b => if b = true then Rw (mc env L) fun g L => Rw (f' e g L) P else P (.bl false) L
    | _ => False := by
  unfold eChain
  rw [rw_bind]
  congr 1
  funext d L
  rw [rw_bind]
  congr 1
  funext e L
  rw [rw_bind]
  congr 1
  funext z L
  cases z with
  | bl b =>
    cases b with
    | true =>
      simp only [if_true]
      rw [rw_bind]
    | false => rfl
  | _ => rfl
theorem all_true {xs : List D} : (if true = true then xs.all (fun _ => true) else xs.any fun _ => true) = true := by
  rw [if_pos rfl]
  exact List.all_eq_true.mpr fun _ _ => rfl
theorem inV_ints {i : Int} : ∀ {ns : List Int}, inV (.int i) ((ns.map D.int).map vD) = decide (i ∈ ns)
  | [] => rfl
  | n :: ns => by
    show (eqV (.int n) (.int i) || inV (.int i) ((ns.map D.int).map vD)) = _
    rw [inV_ints (ns := ns)]
    have e : eqV (.int n) (.int i) = decide (n = i) := by
      unfold eqV
      rfl
    rw [e]
    by_cases h : n = i
    · subst h
      simp
    · have h' : ¬ i = n := fun e => h e.symm
      simp [h, h']
theorem fl_ints {ns : List Int} : (ns.map D.int).all flD = true := by
  rw [List.all_eq_true]
  intro d hd
  obtain ⟨z, _, rfl⟩ := List.mem_map.mp hd
  rfl
theorem rw_inI {P : D → LH → Prop} {L : LH} {i : Int} {e : D} {ns : List Int} (h : seqD L e = some (ns.map D.int)) : Rw (inD false (.int i) e L) P = P (.bl (decide (i ∈ ns))) L := by
  show Rw (inFl false (.int i) e L) P = _
  unfold inFl
  simp only [h]
  rw [if_pos (by rw [fl_ints]; rfl)]
  show P (.bl (inV (.int i) ((ns.map D.int).map vD))) L = _
  rw [inV_ints]
theorem rw_ninI {P : D → LH → Prop} {L : LH} {i : Int} {e : D} {ns : List Int} (h : seqD L e = some (ns.map D.int)) : Rw (inD true (.int i) e L) P = P (.bl (!decide (i ∈ ns))) L := by
  show Rw (inFl true (.int i) e L) P = _
  unfold inFl
  simp only [h]
  rw [if_pos (by rw [fl_ints]; rfl)]
  show P (.bl (!inV (.int i) ((ns.map D.int).map vD))) L = _
  rw [inV_ints]
theorem tru_lst {L : LH} {n : Nat} {xs : List D} (h : lstAt L n = some xs) : truD L (.ref n) = some (!xs.isEmpty) := by
  unfold truD
  simp only [seq_lst h]
theorem rw_eIf {mc : Sl → LH → DI.R Bool} {ma mb : Sl → LH → DI.R D} {env : Sl} {L : LH} {P : D → LH → Prop} : Rw (eIf mc ma mb env L) P = Rw (mc env L) fun b L => if b = true then Rw (ma env L) P else Rw (mb env L) P := by
  unfold eIf
  rw [rw_bind]
  congr 1
  funext b L
  split <;> rfl
theorem rw_tupleS {P : D → LH → Prop} {L : LH} {d : D} {xs : List D} (h : Is L d xs) : Rw (tupleD [d] L) P = P (.tup xs) L := by
  unfold tupleD
  simp only [h.seq]
  rfl
theorem rw_srcB {P : Src → LH → Prop} {L0 L : LH} {d : D} {xs : List D} (h : Is L0 d xs) (x : Ex' L0 L) (hp : ∀ s, (∀ L2, Ex' L0 L2 → ∀ i, i ≤ xs.length → Src.at L2 s i = some xs[i]?) → P s L) : Rw (srcD d L) P := by
  cases h with
  | tup => exact rw_srcT (hp _ fun L2 _ i _ => src_atT)
  | lst q => exact rw_srcL (x.lst q) (hp _ fun L2 x i _ => src_atL (x.lst q))
theorem gTp3 {L : LH} {env : Sl} {d x y z : D} {i j k : Nat} (h : seqD L d = some [x, y, z]) : gTp 3 (gCon (gNm i) (gCon (gNm j) (gCon (gNm k) gNil'))) L env d = some (((env.set i (some x)).set j (some y)).set k (some z)) := by
  unfold gTp
  rw [h]
  rfl
theorem gTp2 {L : LH} {env : Sl} {d x y : D} {i j : Nat} (h : seqD L d = some [x, y]) : gTp 2 (gCon (gNm i) (gCon (gNm j) gNil')) L env d = some ((env.set i (some x)).set j (some y)) := by
  unfold gTp
  rw [h]
  rfl
/-- the last item -/
theorem rw_ixM {P : D → LH → Prop} {L : LH} {n : Nat} {xs : List D} {d : D} (h : lstAt L n = some xs) (hd : xs[xs.length - 1]? = some d) (hp : P d L) : Rw (ixD (.ref n) (.int (-1)) L) P := by
  have hk := (List.getElem?_eq_some_iff.mp hd).1
  have e : atI xs (-1) = some d := by
    unfold atI ixN
    rw [if_neg (by decide), if_pos (by omega)]
    show xs[((-1 : Int) + (xs.length : Int)).toNat]? = some d
    rw [show ((-1 : Int) + (xs.length : Int)).toNat = xs.length - 1 by omega]
    exact hd
  unfold ixD
  simp only [seq_lst h, e]
  exact hp
theorem cut_from {α : Type} {xs : List α} : cutA xs (some 1) none = xs.drop 1 := by
  unfold cutA
  have e : HT.sIx xs.length 0 (some (1 : Int)) = min 1 xs.length := HT.sIx_nat xs.length 0 1
  rw [e, HT.sIx_none]
  by_cases h : 1 ≤ xs.length
  · rw [show min 1 xs.length = 1 by omega, List.take_of_length_le (by rw [List.length_drop]; omega)]
  · have : xs.length = 0 := by omega
    have : xs = [] := List.length_eq_zero_iff.mp this
    subst this
    rfl
theorem mapO_of {α β : Type} {f : α → Option β} : ∀ {xs : List α} {ys : List β}, ys.length = xs.length → (∀ (i : Nat) (x : α) (y : β), xs[i]? = some x → ys[i]? = some y → f x = some y) → mapO f xs = some ys
  | [], [], _, _ => rfl
  | [], _ :: _, h, _ => by cases h
  | _ :: _, [], h, _ => by cases h
  | x :: xs, y :: ys, h, q => by
    unfold mapO
    rw [q 0 x y rfl rfl, mapO_of (xs := xs) (ys := ys) (by simpa using h) fun i a b e1 e2 => q (i + 1) a b (by simpa using e1) (by simpa using e2)]
theorem pd_lstI {L : LH} {n m : Nat} {ns : List Int} (h : lstAt L m = some (ns.map D.int)) : pd L (n + 2) (.ref m) = some (.list (ns.map PyData.int)) := by
  show (match lstAt L m with | some xs => (mapO (pd L (n + 1)) xs).map PyData.list | none => none) = _
  rw [h]
  simp only [mapO_ints]
  rfl
def PS (n : Nat) (p : PyData) : Prop := p.canLay0 = true ∧ p.depth ≤ n
theorem all_ps {n : Nat} : ∀ {ps : List PyData}, (∀ p ∈ ps, PS n p) → PyData.canLayAll0 ps = true ∧ PyData.depthAll ps ≤ n
  | [], _ => ⟨by unfold PyData.canLayAll0; rfl, by unfold PyData.depthAll; exact Nat.zero_le _⟩
  | p :: ps, h => by
    obtain ⟨a, b⟩ := all_ps (ps := ps) fun q hq => h q (List.mem_cons_of_mem _ hq)
    obtain ⟨c, d⟩ := h p List.mem_cons_self
    unfold PyData.canLayAll0 PyData.depthAll
    rw [a, c]
    exact ⟨rfl, by omega⟩
theorem ps_list {n : Nat} {ps : List PyData} (h : ∀ p ∈ ps, PS n p) : PS (n + 1) (.list ps) := by
  obtain ⟨a, b⟩ := all_ps h
  unfold PS PyData.canLay0 PyData.depth
  exact ⟨a, by omega⟩
theorem ps_int {n : Nat} {i : Int} : PS n (.int i) := by
  unfold PS PyData.canLay0 PyData.depth
  exact ⟨rfl, Nat.zero_le _⟩
theorem ps_lstI {n : Nat} {ns : List Int} : PS (n + 1) (.list (ns.map PyData.int)) := ps_list fun p hp => by
  obtain ⟨i, _, rfl⟩ := List.mem_map.mp hp
  exact ps_int
theorem PS.shaped {n : Nat} {p : PyData} (h : PS n p) (hn : n ≤ 64) : SeqAt.shaped p = true := by
  unfold SeqAt.shaped
  rw [h.1, decide_eq_true (Nat.le_trans h.2 hn)]
  rfl
/-- x != y, the same data -/
theorem rw_neSame {P : D → LH → Prop} {L : LH} {d e : D} {p : PyData} {n : Nat} (h1 : pd L deepN d = some p) (h2 : pd L deepN e = some p) (hp : PS n p) (hn : n ≤ 64) : Rw (neD d e L) P = P (.bl false) L := by
  rw [rw_ne h1 h2 (hp.shaped hn) (hp.shaped hn), eqv_refl hp.1]
  rfl
theorem lst_exB {n i : Nat} {L L2 : LH} {xs : List D} (x : ExB n L L2) (h : i ≠ n) (e : lstAt L i = some xs) : lstAt L2 i = some xs := by
  unfold lstAt at e ⊢
  cases z : L[i]? with
  | none => rw [z] at e; cases e
  | some c => rw [x i c h z]; rw [z] at e; exact e
theorem exB_app {L L3 : LH} {c : Cell} (x : ExB L.length (L ++ [c]) L3) : Ex' L L3 := fun i d e => by
  have hi : i < L.length := (List.getElem?_eq_some_iff.mp e).1
  exact x i d (by omega) (by rw [List.getElem?_append_left hi]; exact e)
theorem rw_notT {ma : Sl → LH → DI.R D} {env : Sl} {L : LH} {P : D → LH → Prop} : Rw (eNotT ma env L) P = Rw (ma env L) fun d L => match truD L d with | some b => P (.bl (!b)) L | none => False := by
  unfold eNotT
  rw [rw_bind]
  congr 1
  funext d L
  cases truD L d <;> rfl
end DI
set_option Elab.async false
set_option linter.all false
set_option maxRecDepth 100000
set_option maxHeartbeats 2000000
/-! A comprehension of new things, each in cells of its own (an interval of numbers). -/
namespace DI
open PySem PySem.Spec PyProof.Rows L2 GxR
/-- the cells from lo on, below hi, stay -/
def Stay (lo hi : Nat) (L L' : LH) : Prop := ∀ (i : Nat) (c : Cell), lo ≤ i → i < hi → L[i]? = some c → L'[i]? = some c
theorem Ex'.stay {lo hi : Nat} {L L' : LH} (x : Ex' L L') : Stay lo hi L L' := fun i c _ _ h => x i c h
/-- the cells stay that are not from lo on and below hi -/
def Off (lo hi : Nat) (L L' : LH) : Prop := ∀ (i : Nat) (c : Cell), i < lo ∨ hi ≤ i → L[i]? = some c → L'[i]? = some c
theorem Off.refl {lo hi : Nat} {L : LH} : Off lo hi L L := fun _ _ _ h => h
theorem Off.trans {lo hi : Nat} {L L' L2 : LH} (a : Off lo hi L L') (b : Off lo hi L' L2) : Off lo hi L L2 := fun i c h e => b i c h (a i c h e)
theorem Off.mono {lo hi lo' hi' : Nat} {L L' : LH} (a : Off lo hi L L') (h1 : lo' ≤ lo) (h2 : hi ≤ hi') : Off lo' hi' L L' := fun i c h e => a i c (by omega) e
theorem Ex'.off {lo hi : Nat} {L L' : LH} (x : Ex' L L') : Off lo hi L L' := fun i c _ h => x i c h
theorem Off.stay {lo hi lo' hi' : Nat} {L L' : LH} (a : Off lo hi L L') (h : hi ≤ lo' ∨ hi' ≤ lo) : Stay lo' hi' L L' := fun i c h1 h2 e => a i c (by omega) e
theorem Off.set {lo hi n : Nat} {L L' : LH} {c : Cell} (a : Off lo hi L L') (h1 : lo ≤ n) (h2 : n < hi) : Off lo hi L (L'.set n c) := fun i d h e => by
  rw [List.getElem?_set_ne (by omega)]
  exact a i d h e
theorem Off.ex {lo hi : Nat} {L0 L L' : LH} (x : Ex' L0 L) (a : Off lo hi L L') (h : L0.length ≤ lo) : Ex' L0 L' := fun i c e => by
  have hi := (List.getElem?_eq_some_iff.mp e).1
  exact a i c (by omega) (x i c e)
structure Sep (R : Nat → Nat → D → D → Prop) (lo hi : Nat) (xs es : List D) (bs : List (Nat × Nat)) : Prop where
  le : es.length = xs.length
  lb : bs.length = xs.length
  at' : ∀ (i : Nat) (d e : D) (b : Nat × Nat), xs[i]? = some d → es[i]? = some e → bs[i]? = some b → R b.1 b.2 d e ∧ lo ≤ b.1 ∧ b.1 ≤ b.2 ∧ b.2 ≤ hi
  ord : ∀ (i j : Nat) (b c : Nat × Nat), i < j → bs[i]? = some b → bs[j]? = some c → b.2 ≤ c.1
theorem Sep.get {R : Nat → Nat → D → D → Prop} {lo hi : Nat} {xs es : List D} {bs : List (Nat × Nat)} (h : Sep R lo hi xs es bs) {i : Nat} {d : D} (e : xs[i]? = some d) : ∃ y b, es[i]? = some y ∧ bs[i]? = some b ∧ R b.1 b.2 d y ∧ lo ≤ b.1 ∧ b.1 ≤ b.2 ∧ b.2 ≤ hi := by
  have hi := (List.getElem?_eq_some_iff.mp e).1
  have h1 := h.le
  have h2 := h.lb
  have e1 : es[i]? = some es[i] := List.getElem?_eq_getElem (by omega)
  have e2 : bs[i]? = some bs[i] := List.getElem?_eq_getElem (by omega)
  exact ⟨_, _, e1, e2, h.at' i d _ _ e e1 e2⟩
section
variable {P : D → LH → Prop} {L : LH}
theorem rw_lcS {mi : Sl → LH → DI.R Src} {f : LH → Sl → D → Option Sl} {t : Sl → LH → DI.R Bool} {m : Sl → LH → DI.R D} {vs : List Nat} {env : Sl}
    (hi : Rw (mi env L) fun src L1 => ∃ (xs : List D) (Rel : LH → Nat → Nat → D → D → Prop), xs.length ≤ 100000 ∧ (∀ L2, Ex' L1 L2 → ∀ i, i ≤ xs.length → src.at L2 i = some xs[i]?) ∧
      (∀ d e lo hi L2 L3, Stay lo hi L2 L3 → Rel L2 lo hi d e → Rel L3 lo hi d e) ∧
      (∀ d ∈ xs, ∀ L2, Ex' L1 L2 → L1.length < L2.length → ∃ env1, f L2 (wipeE env vs) d = some env1 ∧ Rw (t env1 L2) fun b L3 => b = true ∧ Ex' L2 L3 ∧ Rw (m env1 L3) fun e L4 => Ex' L3 L4 ∧ Rel L4 L2.length L4.length d e) ∧
      ∀ L2 es bs, Ex' L1 L2 → L2[L1.length]? = some (.lst true es) → Sep (Rel L2) (L1.length + 1) L2.length xs es bs → P (.ref L1.length) L2) : Rw (eLc mi f t m vs env L) P := by
  unfold eLc
  rw [rw_bind]
  refine hi.mono fun src L1 h => ?_
  obtain ⟨xs, Rel, hl, hat, mono, hs, hP⟩ := h
  refine lcD_w (xs := xs) (fun i acc L2 => acc.length = i ∧ Ex' L1 L2 ∧ L2[L1.length]? = some (.lst true acc) ∧ ∃ bs : List (Nat × Nat), bs.length = i ∧
      (∀ (j : Nat) (d e : D) (b : Nat × Nat), xs[j]? = some d → acc[j]? = some e → bs[j]? = some b → Rel L2 b.1 b.2 d e ∧ L1.length + 1 ≤ b.1 ∧ b.1 ≤ b.2 ∧ b.2 ≤ L2.length) ∧ ∀ (i j : Nat) (b c : Nat × Nat), i < j → bs[i]? = some b → bs[j]? = some c → b.2 ≤ c.1)
    (fun i acc L2 h h2 => hat L2 h2.2.1 i h) hl (fun i acc L2 d e ha hI => ?_) (fun acc L2 ha hI => ?_) turnsN 0 [] _ (by simp [turnsN]; omega) (Nat.zero_le _) (Nat.zero_le _) ⟨rfl, Ex'.app, by simp, [], rfl, fun j d e b _ h => by simp at h, fun i j b c _ h => by simp at h⟩
  · obtain ⟨h1, h2, h3, bs, hb1, hb2, hb3⟩ := hI
    have hd : d ∈ xs := List.mem_of_getElem? e
    have hn0 : L1.length < L2.length := (List.getElem?_eq_some_iff.mp h3).1
    obtain ⟨env1, e1, h5⟩ := hs d hd L2 h2 hn0
    refine ⟨env1, e1, rw_noX (h5.mono fun b L3 h6 => ?_)⟩
    obtain ⟨rfl, x3, h7⟩ := h6
    rw [if_pos rfl]
    refine rw_noX (h7.mono fun y L4 h8 => ?_)
    obtain ⟨x4, hr⟩ := h8
    have x24 := x3.trans x4
    have c4 := x24 _ _ h3
    have hlt : L1.length < L4.length := (List.getElem?_eq_some_iff.mp c4).1
    have st : ∀ lo hi, L1.length + 1 ≤ lo → Stay lo hi L4 (L4.set L1.length (.lst true (acc ++ [y]))) := fun lo hi hlo i c q1 q2 ec => by
      rw [List.getElem?_set_ne (by omega)]
      exact ec
    have hle := x24.le
    refine ⟨mut_of c4, by rw [List.length_append, List.length_singleton, h1], (h2.trans x24).set (Nat.le_refl _), List.getElem?_set_self hlt, bs ++ [(L2.length, L4.length)], by rw [List.length_append, List.length_singleton, hb1], fun j d2 e2 b q1 q2 q3 => ?_, fun p q b c hpq e1 e2 => ?_⟩
    · rw [List.length_set]
      by_cases c : j < acc.length
      · rw [List.getElem?_append_left c] at q2
        rw [List.getElem?_append_left (by omega)] at q3
        obtain ⟨g1, g2, g3, g4⟩ := hb2 j d2 e2 b q1 q2 q3
        exact ⟨mono _ _ _ _ _ _ (st _ _ g2) (mono _ _ _ _ _ _ x24.stay g1), g2, g3, by omega⟩
      · have hj : j = i := by
          have := (List.getElem?_eq_some_iff.mp q2).1
          rw [List.length_append, List.length_singleton] at this
          omega
        subst hj
        rw [e] at q1
        cases q1
        rw [List.getElem?_append_right (by omega), h1, Nat.sub_self] at q2
        rw [List.getElem?_append_right (by omega), hb1, Nat.sub_self] at q3
        cases q2
        cases q3
        exact ⟨mono _ _ _ _ _ _ (st _ _ hn0) hr, hn0, hle, Nat.le_refl _⟩
    · have hq : q < i + 1 := by
        have := (List.getElem?_eq_some_iff.mp e2).1
        rw [List.length_append, List.length_singleton, hb1] at this
        exact this
      rw [List.getElem?_append_left (by omega)] at e1
      by_cases c2 : q < bs.length
      · rw [List.getElem?_append_left c2] at e2
        exact hb3 p q b c hpq e1 e2
      · have hj : q = i := by omega
        subst hj
        rw [List.getElem?_append_right (by omega), hb1, Nat.sub_self] at e2
        cases e2
        have hp1 : p < xs.length := by have := (List.getElem?_eq_some_iff.mp e).1; omega
        exact (hb2 p _ _ b (List.getElem?_eq_getElem hp1) (List.getElem?_eq_getElem (by omega)) e1).2.2.2
  · obtain ⟨h1, h2, h3, bs, hb1, hb2, hb3⟩ := hI
    exact hP L2 acc bs h2 h3 ⟨h1, hb1, hb2, hb3⟩
end
end DI

set_option Elab.async false
set_option linter.all false
set_option maxRecDepth 100000
set_option maxHeartbeats 4000000
namespace K26
open PySem PySem.Spec PyProof.Rows L2 GxR DW GxA DI
def frees : List Str := ["abs", "all", "any", "bool", "enumerate", "int", "isinstance", "len", "list", "max", "min", "range", "sorted", "super", "tuple", "zip"]
def glos_0 : List Str := ["RowsTable", "TermsTable", "Web", "_law_beat", "_law_cell", "_law_draws", "_law_heard", "_law_house_numbers", "_law_integers", "_law_lists", "_law_mark", "_law_rooms_are", "_law_run", "_law_run_lists", "_law_table", "_law_terms", "_law_value", "_law_walk_is", "are_terms", "as_any_levels"]
def glos_1 : List Str := ["as_any_state", "as_state", "can_read", "check_top", "contains", "corner", "corner_of", "corner_state", "digit_of_sign", "digit_of_step", "digits_of", "fine_states", "is_ascending", "is_good", "is_group", "is_row_of", "is_size", "is_term", "law", "levels_after"]
def glos_2 : List Str := ["levels_along", "mark_of", "readable", "reading_room", "rows_table", "stands_apart", "state_at", "table_of", "tables_of_web", "terms_table"]
def glos : List Str := glos_0 ++ glos_1 ++ glos_2
def nums : List (Str × Int) := [("MOST_HEARD", 4), ("MOST_HOUSES", 12)]
abbrev HyP (G : Pr) : Prop := Hy frees glos nums G
def clsL : List (Str × List Str) := [("Web", ["size", "tables"]), ("RowsTable", ["bits", "heard"]), ("TermsTable", ["hearings", "terms", "heard"]), ("Table", ["heard"])]
abbrev cf (K : PySem.W.Frag) : Addr → Str → Bool := cfL clsL K
def N__law_cell : List Str := ["_law_script", "_law_k"]
def m__law_cell (K : PySem.W.Frag) : Sl → LH → RS := sSeq (sIf (bVal (eOp ltD (eVar 1) (eCall lenD (aCons (eVar 0) (aNil))))) (sRet (eCall intCD (aCons (eOp ixD (eVar 0) (eVar 1)) (aNil)))) (sNx)) (sRet (eK (.int 0)))
def F__law_cell (K : PySem.W.Frag) : Fn := fnD N__law_cell (m__law_cell K)
theorem S__law_cell : FnScope N__law_cell ["_law_script", "_law_k"] (defScope s_law_cell) := ⟨rfl, rfl, rfl, by decide +kernel, rfl, by decide +kernel, by decide +kernel⟩
theorem b__law_cell {G : Pr} {T : Tb} {qual : Str} {f0 : Addr} {cdv : Value} {E : XK} (H : HyP G) (hA : AOk G.K (cf G.K))  : SSs (DefF G N__law_cell qual (defScope s_law_cell) f0 cdv 1 E) T (WD E) (defBody s_law_cell) (m__law_cell G.K) := by
  have hG := def_fm (G := G) (qual := qual) (f := f0) (cdv := cdv) (k := 1) (E := E) S__law_cell
  have hO := def_own (G := G) (N := N__law_cell) (qual := qual) (scope := defScope s_law_cell) (f := f0) (cdv := cdv) (k := 1) (E := E)
  exact sss_cons (ss_if (sb_cmp (o_lt hG) ops_ltD (se_var hG (i := 1) rfl rfl (by decide) (by decide)) (se_callB hG (c_len hG) cas_len rfl (H.free _ rfl) (by decide +kernel) rfl rfl (sa_cons rfl (se_var hG (i := 0) rfl rfl (by decide) (by decide)) (sa_nil)) (by decide) (by decide)) (by with_unfolding_all rfl)) (sss_one (ss_ret (se_callT hG (c_int hG) cas_int rfl (H.free _ rfl) (by decide +kernel) rfl rfl (sa_cons rfl (se_ix hG rfl (se_var hG (i := 0) rfl rfl (by decide) (by decide)) (se_var hG (i := 1) rfl rfl (by decide) (by decide))) (sa_nil)) (by decide) (by decide)))) (sss_nil)) (sss_one (ss_ret (se_int)))
def N__law_draws : List Str := ["_law_cell_here", "_law_sizes", "_law_rest", "_law_draws_here", "_law_k", "_law_mixed"]
def m__law_draws (K : PySem.W.Frag) : Sl → LH → RS := sSeq (sAsg (eCall absD (aCons (eVar 0) (aNil))) (gNm 2)) (sSeq (sAsg (eLst (aNil)) (gNm 3)) (sSeq (sFor (iArg rng1D (aCons (eCall lenD (aCons (eVar 1) (aNil))) (aNil))) (gNm 4) (sIf (bVal (eOp geD (eCall absD (aCons (eVar 0) (aNil))) (eOp powD (eK (.int 10)) (eK (.int 18))))) (sSeq (sDrop (eBm isL appendD (eVar 3) (aCons (eOp modD (eCall intCD (aCons (eVar 2) (aNil))) (eOp ixD (eVar 1) (eVar 4))) (aNil)))) (sAsg (eOp fdivD (eVar 2) (eOp ixD (eVar 1) (eVar 4))) (gNm 2))) (sSeq (sAsg (eOp modD (eCall intCD (aCons (eOp mulD (eOp mulD (eOp addD (eOp modD (eCall intCD (aCons (eCall absD (aCons (eVar 0) (aNil))) (aNil))) (eK (.int 2147483647))) (eK (.int 1))) (eOp addD (eOp mulD (eK (.int 2)) (eVar 4)) (eK (.int 7)))) (eK (.int 48271))) (aNil))) (eK (.int 2147483647))) (gNm 5)) (sSeq (sAsg (eOp modD (eCall intCD (aCons (eOp mulD (eOp addD (eVar 5) (eVar 4)) (eOp addD (eVar 5) (eK (.int 69621)))) (aNil))) (eK (.int 1000000007))) (gNm 5)) (sDrop (eBm isL appendD (eVar 3) (aCons (eOp modD (eCall intCD (aCons (eOp fdivD (eVar 5) (eK (.int 11))) (aNil))) (eOp ixD (eVar 1) (eVar 4))) (aNil)))))))) (sRet (eVar 3))))
def F__law_draws (K : PySem.W.Frag) : Fn := fnD N__law_draws (m__law_draws K)
theorem S__law_draws : FnScope N__law_draws ["_law_cell_here", "_law_sizes"] (defScope s_law_draws) := ⟨rfl, rfl, rfl, by decide +kernel, rfl, by decide +kernel, by decide +kernel⟩
theorem b__law_draws {G : Pr} {T : Tb} {qual : Str} {f0 : Addr} {cdv : Value} {E : XK} (H : HyP G) (hA : AOk G.K (cf G.K))  : SSs (DefF G N__law_draws qual (defScope s_law_draws) f0 cdv 1 E) T (WD E) (defBody s_law_draws) (m__law_draws G.K) := by
  have hG := def_fm (G := G) (qual := qual) (f := f0) (cdv := cdv) (k := 1) (E := E) S__law_draws
  have hO := def_own (G := G) (N := N__law_draws) (qual := qual) (scope := defScope s_law_draws) (f := f0) (cdv := cdv) (k := 1) (E := E)
  exact sss_cons (ss_set (i := 2) hG rfl rfl rfl (se_callB hG (c_abs hG) cas_abs rfl (H.free _ rfl) (by decide +kernel) rfl rfl (sa_cons rfl (se_var hG (i := 0) rfl rfl (by decide) (by decide)) (sa_nil)) (by decide) (by decide))) (sss_cons (ss_set (i := 3) hG rfl rfl rfl (se_lst (sa_nil))) (sss_cons (ss_for hG hO (si_rng1 hG rfl (H.free _ rfl) rfl (sa_cons rfl (se_callB hG (c_len hG) cas_len rfl (H.free _ rfl) (by decide +kernel) rfl rfl (sa_cons rfl (se_var hG (i := 1) rfl rfl (by decide) (by decide)) (sa_nil)) (by decide) (by decide)) (sa_nil))) rfl (sg_name hG (i := 4) rfl rfl) (sss_one (ss_if (sb_cmp (o_ge hG) ops_geD (se_callB hG (c_abs hG) cas_abs rfl (H.free _ rfl) (by decide +kernel) rfl rfl (sa_cons rfl (se_var hG (i := 0) rfl rfl (by decide) (by decide)) (sa_nil)) (by decide) (by decide)) (se_op (o_pow hG) ops_powD (se_int) (se_int)) (by with_unfolding_all rfl)) (sss_cons (ss_expr rfl (se_bm hG F.plainAttrs_list F.slot_list_append F.type_list_append (fun _ _ => mt_append) mts_append (se_var hG (i := 3) rfl rfl (by decide) (by decide)) rfl rfl (sa_cons rfl (se_op (o_mod hG) ops_modD (se_callT hG (c_int hG) cas_int rfl (H.free _ rfl) (by decide +kernel) rfl rfl (sa_cons rfl (se_var hG (i := 2) rfl rfl (by decide) (by decide)) (sa_nil)) (by decide) (by decide)) (se_ix hG rfl (se_var hG (i := 1) rfl rfl (by decide) (by decide)) (se_var hG (i := 4) rfl rfl (by decide) (by decide)))) (sa_nil)) ⟨fun _ _ => rfl, fun _ _ => rfl⟩ rfl)) (sss_one (ss_set (i := 2) hG rfl rfl rfl (se_op (o_fdiv hG) ops_fdivD (se_var hG (i := 2) rfl rfl (by decide) (by decide)) (se_ix hG rfl (se_var hG (i := 1) rfl rfl (by decide) (by decide)) (se_var hG (i := 4) rfl rfl (by decide) (by decide))))))) (sss_cons (ss_set (i := 5) hG rfl rfl rfl (se_op (o_mod hG) ops_modD (se_callT hG (c_int hG) cas_int rfl (H.free _ rfl) (by decide +kernel) rfl rfl (sa_cons rfl (se_op (o_mul hG) ops_mulD (se_op (o_mul hG) ops_mulD (se_op (o_add hG) ops_addD (se_op (o_mod hG) ops_modD (se_callT hG (c_int hG) cas_int rfl (H.free _ rfl) (by decide +kernel) rfl rfl (sa_cons rfl (se_callB hG (c_abs hG) cas_abs rfl (H.free _ rfl) (by decide +kernel) rfl rfl (sa_cons rfl (se_var hG (i := 0) rfl rfl (by decide) (by decide)) (sa_nil)) (by decide) (by decide)) (sa_nil)) (by decide) (by decide)) (se_int)) (se_int)) (se_op (o_add hG) ops_addD (se_op (o_mul hG) ops_mulD (se_int) (se_var hG (i := 4) rfl rfl (by decide) (by decide))) (se_int))) (se_int)) (sa_nil)) (by decide) (by decide)) (se_int))) (sss_cons (ss_set (i := 5) hG rfl rfl rfl (se_op (o_mod hG) ops_modD (se_callT hG (c_int hG) cas_int rfl (H.free _ rfl) (by decide +kernel) rfl rfl (sa_cons rfl (se_op (o_mul hG) ops_mulD (se_op (o_add hG) ops_addD (se_var hG (i := 5) rfl rfl (by decide) (by decide)) (se_var hG (i := 4) rfl rfl (by decide) (by decide))) (se_op (o_add hG) ops_addD (se_var hG (i := 5) rfl rfl (by decide) (by decide)) (se_int))) (sa_nil)) (by decide) (by decide)) (se_int))) (sss_one (ss_expr rfl (se_bm hG F.plainAttrs_list F.slot_list_append F.type_list_append (fun _ _ => mt_append) mts_append (se_var hG (i := 3) rfl rfl (by decide) (by decide)) rfl rfl (sa_cons rfl (se_op (o_mod hG) ops_modD (se_callT hG (c_int hG) cas_int rfl (H.free _ rfl) (by decide +kernel) rfl rfl (sa_cons rfl (se_op (o_fdiv hG) ops_fdivD (se_var hG (i := 5) rfl rfl (by decide) (by decide)) (se_int)) (sa_nil)) (by decide) (by decide)) (se_ix hG rfl (se_var hG (i := 1) rfl rfl (by decide) (by decide)) (se_var hG (i := 4) rfl rfl (by decide) (by decide)))) (sa_nil)) ⟨fun _ _ => rfl, fun _ _ => rfl⟩ rfl)))))))) (sss_one (ss_ret (se_var hG (i := 3) rfl rfl (by decide) (by decide))))))
def N__law_heard : List Str := ["_law_draws_here", "_law_size", "_law_house", "_law_left", "_law_other", "_law_heard_here", "_law_k"]
def m__law_heard (K : PySem.W.Frag) : Sl → LH → RS := sSeq (sAsg (eLc (iArg rng1D (aCons (eVar 1) (aNil))) (gNm 4) (bYes) (eVar 4) [4]) (gNm 3)) (sSeq (sAsg (eLst (aNil)) (gNm 5)) (sSeq (sFor (iArg rng1D (aCons (eCall min2D (aCons (eOp ixD (eVar 0) (eK (.int 0))) (aCons (eVar 1) (aNil)))) (aNil))) (gNm 6) (sDrop (eBm isL appendD (eVar 5) (aCons (eBm isL popAtD (eVar 3) (aCons (eOp modD (eCall intCD (aCons (eOp ixD (eVar 0) (eOp addD (eVar 6) (eK (.int 1)))) (aNil))) (eCall lenD (aCons (eVar 3) (aNil)))) (aNil))) (aNil))))) (sSeq (sIf (bAnd (bVal (eOp eqD (eOp ixD (eVar 0) (eK (.int 5))) (eK (.int 1)))) (bAnd (bTru (eVar 5)) (bVal (eOp (inD true) (eVar 2) (eVar 5))))) (sSet (eVar 5) (eK (.int 0)) (eVar 2)) (sNx)) (sRet (eCall tupleD (aCons (eCall sortedD (aCons (eVar 5) (aNil))) (aNil)))))))
def F__law_heard (K : PySem.W.Frag) : Fn := fnD N__law_heard (m__law_heard K)
theorem S__law_heard : FnScope N__law_heard ["_law_draws_here", "_law_size", "_law_house"] (defScope s_law_heard) := ⟨rfl, rfl, rfl, by decide +kernel, rfl, by decide +kernel, by decide +kernel⟩
theorem b__law_heard {G : Pr} {T : Tb} {qual : Str} {f0 : Addr} {cdv : Value} {E : XK} (H : HyP G) (hA : AOk G.K (cf G.K))  : SSs (DefF G N__law_heard qual (defScope s_law_heard) f0 cdv 1 E) T (WD E) (defBody s_law_heard) (m__law_heard G.K) := by
  have hG := def_fm (G := G) (qual := qual) (f := f0) (cdv := cdv) (k := 1) (E := E) S__law_heard
  have hO := def_own (G := G) (N := N__law_heard) (qual := qual) (scope := defScope s_law_heard) (f := f0) (cdv := cdv) (k := 1) (E := E)
  exact sss_cons (ss_lc (own := [("_law_other", 4)]) (i := 3) hG (blkOk_by (by decide +kernel)) (si_rng1 hG rfl (H.free _ rfl) rfl (sa_cons rfl (se_var hG (i := 1) rfl rfl (by decide) (by decide)) (sa_nil))) rfl rfl rfl rfl rfl (by decide +kernel) (sg_name (blk_fm hG) (i := 4) rfl rfl) (by decide) (sf_nil) (se_var (blk_fm hG) (i := 4) rfl rfl (by decide) (by decide))) (sss_cons (ss_set (i := 5) hG rfl rfl rfl (se_lst (sa_nil))) (sss_cons (ss_for hG hO (si_rng1 hG rfl (H.free _ rfl) rfl (sa_cons rfl (se_callB hG (c_min hG) cas_min2 rfl (H.free _ rfl) (by decide +kernel) rfl rfl (sa_cons rfl (se_ix hG rfl (se_var hG (i := 0) rfl rfl (by decide) (by decide)) (se_int)) (sa_cons rfl (se_var hG (i := 1) rfl rfl (by decide) (by decide)) (sa_nil))) (by decide) (by decide)) (sa_nil))) rfl (sg_name hG (i := 6) rfl rfl) (sss_one (ss_expr rfl (se_bm hG F.plainAttrs_list F.slot_list_append F.type_list_append (fun _ _ => mt_append) mts_append (se_var hG (i := 5) rfl rfl (by decide) (by decide)) rfl rfl (sa_cons rfl (se_bm hG F.plainAttrs_list F.slot_list_pop F.type_list_pop (fun _ _ => mt_popAt) mts_popAt (se_var hG (i := 3) rfl rfl (by decide) (by decide)) rfl rfl (sa_cons rfl (se_op (o_mod hG) ops_modD (se_callT hG (c_int hG) cas_int rfl (H.free _ rfl) (by decide +kernel) rfl rfl (sa_cons rfl (se_ix hG rfl (se_var hG (i := 0) rfl rfl (by decide) (by decide)) (se_op (o_add hG) ops_addD (se_var hG (i := 6) rfl rfl (by decide) (by decide)) (se_int))) (sa_nil)) (by decide) (by decide)) (se_callB hG (c_len hG) cas_len rfl (H.free _ rfl) (by decide +kernel) rfl rfl (sa_cons rfl (se_var hG (i := 3) rfl rfl (by decide) (by decide)) (sa_nil)) (by decide) (by decide))) (sa_nil)) ⟨fun _ _ => rfl, fun _ _ => rfl⟩ rfl) (sa_nil)) ⟨fun _ _ => rfl, fun _ _ => rfl⟩ rfl)))) (sss_cons (ss_if (sb_sw (sw_and (sb_cmp (o_eq hG) ops_eqD (se_ix hG rfl (se_var hG (i := 0) rfl rfl (by decide) (by decide)) (se_int)) (se_int) (by with_unfolding_all rfl)) (sw_and (sb_tru (fun _ _ => rfl) hG (se_var hG (i := 5) rfl rfl (by decide) (by decide))) (sw_and1 (sb_cmp (o_nin hG (by decide)) ops_ninA (se_var hG (i := 2) rfl rfl (by decide) (by decide)) (se_var hG (i := 5) rfl rfl (by decide) (by decide)) (by with_unfolding_all rfl)))))) (sss_one (ss_sub rfl rfl (se_var hG (i := 5) rfl rfl (by decide) (by decide)) (se_int) (se_var hG (i := 2) rfl rfl (by decide) (by decide)) (fun _ _ => rfl) (fun _ _ _ => rfl))) (sss_nil)) (sss_one (ss_ret (se_callT hG (c_tuple hG) cas_tuple rfl (H.free _ rfl) (by decide +kernel) rfl rfl (sa_cons rfl (se_callB hG (c_sortedD hG) cas_sortedD rfl (H.free _ rfl) (by decide +kernel) rfl rfl (sa_cons rfl (se_var hG (i := 5) rfl rfl (by decide) (by decide)) (sa_nil)) (by decide) (by decide)) (sa_nil)) (by decide) (by decide)))))))
def N__law_terms : List Str := ["_law_heard_here", "_law_masks", "_law_terms_here", "_law_mask", "_law_less", "_law_other", "_law_term", "_law_k"]
def m__law_terms (K : PySem.W.Frag) : Sl → LH → RS := sSeq (sAsg (eLst (aNil)) (gNm 2)) (sSeq (sFor (iSrc (eVar 1)) (gNm 3) (sSeq (sAsg (eLc (iSrc (eVar 1)) (gNm 5) (bAnd (bVal (eOp neD (eVar 5) (eVar 3))) (bVal (eOp eqD (eOp andD (eVar 5) (eVar 3)) (eVar 5)))) (eVar 5) [5]) (gNm 4)) (sSeq (sAsg (eCall tupleD (aCons (eLc (iArg rng1D (aCons (eCall lenD (aCons (eVar 0) (aNil))) (aNil))) (gNm 7) (bVal (eOp eqD (eOp andD (eOp shrD (eVar 3) (eVar 7)) (eK (.int 1))) (eK (.int 1)))) (eOp ixD (eVar 0) (eVar 7)) [7]) (aNil))) (gNm 6)) (sIf (bAnd (bNot (bTru (eVar 4))) (bVal (eOp (inD true) (eVar 6) (eVar 2)))) (sDrop (eBm isL appendD (eVar 2) (aCons (eVar 6) (aNil)))) (sNx))))) (sRet (eCall tupleD (aCons (eCall sortedD (aCons (eVar 2) (aNil))) (aNil)))))
def F__law_terms (K : PySem.W.Frag) : Fn := fnD N__law_terms (m__law_terms K)
theorem S__law_terms : FnScope N__law_terms ["_law_heard_here", "_law_masks"] (defScope s_law_terms) := ⟨rfl, rfl, rfl, by decide +kernel, rfl, by decide +kernel, by decide +kernel⟩
theorem b__law_terms {G : Pr} {T : Tb} {qual : Str} {f0 : Addr} {cdv : Value} {E : XK} (H : HyP G) (hA : AOk G.K (cf G.K))  : SSs (DefF G N__law_terms qual (defScope s_law_terms) f0 cdv 1 E) T (WD E) (defBody s_law_terms) (m__law_terms G.K) := by
  have hG := def_fm (G := G) (qual := qual) (f := f0) (cdv := cdv) (k := 1) (E := E) S__law_terms
  have hO := def_own (G := G) (N := N__law_terms) (qual := qual) (scope := defScope s_law_terms) (f := f0) (cdv := cdv) (k := 1) (E := E)
  exact sss_cons (ss_set (i := 2) hG rfl rfl rfl (se_lst (sa_nil))) (sss_cons (ss_for hG hO (si_seq hG (se_var hG (i := 1) rfl rfl (by decide) (by decide))) rfl (sg_cell hG (i := 3) rfl rfl def_fn) (sss_cons (ss_lc (own := [("_law_other", 5)]) (i := 4) hG (blkOk_by (by decide +kernel)) (si_seq hG (se_var hG (i := 1) rfl rfl (by decide) (by decide))) rfl rfl rfl rfl rfl (by decide +kernel) (sg_name (blk_fm hG) (i := 5) rfl rfl) (by decide) (sf_one (sb_sw (sw_and (sb_cmp (o_ne (blk_fm hG)) ops_neD (se_var (blk_fm hG) (i := 5) rfl rfl (by decide) (by decide)) (se_var (blk_fm hG) (i := 3) rfl rfl (by decide) (by decide)) (by with_unfolding_all rfl)) (sw_and1 (sb_cmp (o_eq (blk_fm hG)) ops_eqD (se_op (o_and (blk_fm hG)) ops_andD (se_var (blk_fm hG) (i := 5) rfl rfl (by decide) (by decide)) (se_var (blk_fm hG) (i := 3) rfl rfl (by decide) (by decide))) (se_var (blk_fm hG) (i := 5) rfl rfl (by decide) (by decide)) (by with_unfolding_all rfl)))))) (se_var (blk_fm hG) (i := 5) rfl rfl (by decide) (by decide))) (sss_cons (ss_set (i := 6) hG rfl rfl rfl (se_callT hG (c_tuple hG) cas_tuple rfl (H.free _ rfl) (by decide +kernel) rfl rfl (sa_cons rfl (se_lc (own := [("_law_k", 7)]) hG (blkOk_by (by decide +kernel)) (si_rng1 hG rfl (H.free _ rfl) rfl (sa_cons rfl (se_callB hG (c_len hG) cas_len rfl (H.free _ rfl) (by decide +kernel) rfl rfl (sa_cons rfl (se_var hG (i := 0) rfl rfl (by decide) (by decide)) (sa_nil)) (by decide) (by decide)) (sa_nil))) rfl (sg_name (blk_fm hG) (i := 7) rfl rfl) (by decide) (sf_one (sb_cmp (o_eq (blk_fm hG)) ops_eqD (se_op (o_and (blk_fm hG)) ops_andD (se_op (o_shr (blk_fm hG)) ops_shrD (se_var (blk_fm hG) (i := 3) rfl rfl (by decide) (by decide)) (se_var (blk_fm hG) (i := 7) rfl rfl (by decide) (by decide))) (se_int)) (se_int) (by with_unfolding_all rfl))) (se_ix (blk_fm hG) rfl (se_var (blk_fm hG) (i := 0) rfl rfl (by decide) (by decide)) (se_var (blk_fm hG) (i := 7) rfl rfl (by decide) (by decide)))) (sa_nil)) (by decide) (by decide))) (sss_one (ss_if (sb_sw (sw_and (sb_not (sb_tru (fun _ _ => rfl) hG (se_var hG (i := 4) rfl rfl (by decide) (by decide)))) (sw_and1 (sb_cmp (o_nin hG (by decide)) ops_ninA (se_var hG (i := 6) rfl rfl (by decide) (by decide)) (se_var hG (i := 2) rfl rfl (by decide) (by decide)) (by with_unfolding_all rfl))))) (sss_one (ss_expr rfl (se_bm hG F.plainAttrs_list F.slot_list_append F.type_list_append (fun _ _ => mt_append) mts_append (se_var hG (i := 2) rfl rfl (by decide) (by decide)) rfl rfl (sa_cons rfl (se_var hG (i := 6) rfl rfl (by decide) (by decide)) (sa_nil)) ⟨fun _ _ => rfl, fun _ _ => rfl⟩ rfl))) (sss_nil)))))) (sss_one (ss_ret (se_callT hG (c_tuple hG) cas_tuple rfl (H.free _ rfl) (by decide +kernel) rfl rfl (sa_cons rfl (se_callB hG (c_sortedD hG) cas_sortedD rfl (H.free _ rfl) (by decide +kernel) rfl rfl (sa_cons rfl (se_var hG (i := 2) rfl rfl (by decide) (by decide)) (sa_nil)) (by decide) (by decide)) (sa_nil)) (by decide) (by decide)))))
def N__law_table : List Str := ["_law_cell_here", "_law_size", "_law_house", "_law_most", "_law_draws_here", "_law_heard_here", "_law_hearings", "_law_k", "_law_masks", "_law_mask"]
def m__law_table (K : PySem.W.Frag) : Sl → LH → RS := sSeq (sAsg (eFn 2 (F__law_draws K) (aCons (eVar 0) (aCons (eOp addD (eOp addD (eOp addD (eLst (aCons (eK (.int 2)) (aCons (eOp addD (eVar 3) (eK (.int 1))) (aCons (eK (.int 12)) (aCons (eK (.int 11)) (aCons (eK (.int 10)) (aCons (eK (.int 9)) (aCons (eK (.int 2)) (aNil))))))))) (eOp mulD (eLst (aCons (eK (.int 2)) (aNil))) (eK (.int 16)))) (eLst (aCons (eK (.int 7)) (aNil)))) (eOp mulD (eLst (aCons (eK (.int 16)) (aNil))) (eK (.int 6)))) (aNil)))) (gNm 4)) (sSeq (sAsg (eFn 3 (F__law_heard K) (aCons (eSl (eVar 4) (oSome (eK (.int 1))) (oSome (eK (.int 7)))) (aCons (eVar 1) (aCons (eVar 2) (aNil))))) (gNm 5)) (sSeq (sIf (bVal (eOp eqD (eOp ixD (eVar 4) (eK (.int 0))) (eK (.int 0)))) (sRet (eTup (aCons (eK (.str "rows")) (aCons (eVar 5) (aCons (eCall tupleD (aCons (eSl (eVar 4) (oSome (eK (.int 7))) (oSome (eOp addD (eK (.int 7)) (eOp shlD (eK (.int 1)) (eCall lenD (aCons (eVar 5) (aNil))))))) (aNil))) (aNil)))))) (sNx)) (sSeq (sAsg (eCall tupleD (aCons (eLc (iArg rng1D (aCons (eCall lenD (aCons (eVar 5) (aNil))) (aNil))) (gNm 7) (bYes) (eTup (aCons (eOp ixD (eVar 5) (eVar 7)) (aCons (eOp subD (eOp mulD (eK (.int 2)) (eOp ixD (eVar 4) (eOp addD (eK (.int 7)) (eVar 7)))) (eK (.int 1))) (aNil)))) [7]) (aNil))) (gNm 6)) (sSeq (sAsg (eLc (iSrc (eSl (eVar 4) (oSome (eK (.int 24))) (oSome (eOp addD (eK (.int 24)) (eOp ixD (eVar 4) (eK (.int 23))))))) (gNm 9) (bYes) (eOp modD (eCall intCD (aCons (eVar 9) (aNil))) (eOp shlD (eK (.int 1)) (eCall lenD (aCons (eVar 5) (aNil))))) [9]) (gNm 8)) (sRet (eTup (aCons (eK (.str "terms")) (aCons (eVar 6) (aCons (eFn 2 (F__law_terms K) (aCons (eVar 5) (aCons (eVar 8) (aNil)))) (aNil))))))))))
def F__law_table (K : PySem.W.Frag) : Fn := fnD N__law_table (m__law_table K)
theorem S__law_table : FnScope N__law_table ["_law_cell_here", "_law_size", "_law_house", "_law_most"] (defScope s_law_table) := ⟨rfl, rfl, rfl, by decide +kernel, rfl, by decide +kernel, by decide +kernel⟩
theorem b__law_table {G : Pr} {T : Tb} {qual : Str} {f0 : Addr} {cdv : Value} {E : XK} (H : HyP G) (hA : AOk G.K (cf G.K)) (ok__law_draws : FG G T 2 (He.ga G.K "_law_draws") 2 (F__law_draws G.K)) (ok__law_heard : FG G T 2 (He.ga G.K "_law_heard") 3 (F__law_heard G.K)) (ok__law_terms : FG G T 2 (He.ga G.K "_law_terms") 2 (F__law_terms G.K)) : SSs (DefF G N__law_table qual (defScope s_law_table) f0 cdv 2 E) T (WD E) (defBody s_law_table) (m__law_table G.K) := by
  have hG := def_fm (G := G) (qual := qual) (f := f0) (cdv := cdv) (k := 2) (E := E) S__law_table
  have hO := def_own (G := G) (N := N__law_table) (qual := qual) (scope := defScope s_law_table) (f := f0) (cdv := cdv) (k := 2) (E := E)
  exact sss_cons (ss_setC (i := 4) hG rfl rfl def_fn (se_fn hG ok__law_draws (by decide) rfl (H.glo _ rfl).1 (H.glo _ rfl).2 rfl rfl (sa_cons rfl (se_var hG (i := 0) rfl rfl (by decide) (by decide)) (sa_cons rfl (se_op (o_add hG) ops_addD (se_op (o_add hG) ops_addD (se_op (o_add hG) ops_addD (se_lst (sa_cons rfl (se_int) (sa_cons rfl (se_op (o_add hG) ops_addD (se_var hG (i := 3) rfl rfl (by decide) (by decide)) (se_int)) (sa_cons rfl (se_int) (sa_cons rfl (se_int) (sa_cons rfl (se_int) (sa_cons rfl (se_int) (sa_cons rfl (se_int) (sa_nil))))))))) (se_op (o_mul hG) ops_mulD (se_lst (sa_cons rfl (se_int) (sa_nil))) (se_int))) (se_lst (sa_cons rfl (se_int) (sa_nil)))) (se_op (o_mul hG) ops_mulD (se_lst (sa_cons rfl (se_int) (sa_nil))) (se_int))) (sa_nil))) (by decide)) rfl) (sss_cons (ss_setC (i := 5) hG rfl rfl def_fn (se_fn hG ok__law_heard (by decide) rfl (H.glo _ rfl).1 (H.glo _ rfl).2 rfl rfl (sa_cons rfl (se_slice hG (se_var hG (i := 4) rfl rfl (by decide) (by decide)) (so_some (se_int)) (so_some (se_int))) (sa_cons rfl (se_var hG (i := 1) rfl rfl (by decide) (by decide)) (sa_cons rfl (se_var hG (i := 2) rfl rfl (by decide) (by decide)) (sa_nil)))) (by decide)) rfl) (sss_cons (ss_if (sb_cmp (o_eq hG) ops_eqD (se_ix hG rfl (se_var hG (i := 4) rfl rfl (by decide) (by decide)) (se_int)) (se_int) (by with_unfolding_all rfl)) (sss_one (ss_ret (se_tup (sa_cons rfl (se_str) (sa_cons rfl (se_var hG (i := 5) rfl rfl (by decide) (by decide)) (sa_cons rfl (se_callT hG (c_tuple hG) cas_tuple rfl (H.free _ rfl) (by decide +kernel) rfl rfl (sa_cons rfl (se_slice hG (se_var hG (i := 4) rfl rfl (by decide) (by decide)) (so_some (se_int)) (so_some (se_op (o_add hG) ops_addD (se_int) (se_op (o_shl hG) ops_shlD (se_int) (se_callB hG (c_len hG) cas_len rfl (H.free _ rfl) (by decide +kernel) rfl rfl (sa_cons rfl (se_var hG (i := 5) rfl rfl (by decide) (by decide)) (sa_nil)) (by decide) (by decide)))))) (sa_nil)) (by decide) (by decide)) (sa_nil))))))) (sss_nil)) (sss_cons (ss_set (i := 6) hG rfl rfl rfl (se_callT hG (c_tuple hG) cas_tuple rfl (H.free _ rfl) (by decide +kernel) rfl rfl (sa_cons rfl (se_lc (own := [("_law_k", 7)]) hG (blkOk_by (by decide +kernel)) (si_rng1 hG rfl (H.free _ rfl) rfl (sa_cons rfl (se_callB hG (c_len hG) cas_len rfl (H.free _ rfl) (by decide +kernel) rfl rfl (sa_cons rfl (se_var hG (i := 5) rfl rfl (by decide) (by decide)) (sa_nil)) (by decide) (by decide)) (sa_nil))) rfl (sg_name (blk_fm hG) (i := 7) rfl rfl) (by decide) (sf_nil) (se_tup (sa_cons rfl (se_ix (blk_fm hG) rfl (se_var (blk_fm hG) (i := 5) rfl rfl (by decide) (by decide)) (se_var (blk_fm hG) (i := 7) rfl rfl (by decide) (by decide))) (sa_cons rfl (se_op (o_sub (blk_fm hG)) ops_subD (se_op (o_mul (blk_fm hG)) ops_mulD (se_int) (se_ix (blk_fm hG) rfl (se_var (blk_fm hG) (i := 4) rfl rfl (by decide) (by decide)) (se_op (o_add (blk_fm hG)) ops_addD (se_int) (se_var (blk_fm hG) (i := 7) rfl rfl (by decide) (by decide))))) (se_int)) (sa_nil))))) (sa_nil)) (by decide) (by decide))) (sss_cons (ss_lc (own := [("_law_mask", 9)]) (i := 8) hG (blkOk_by (by decide +kernel)) (si_seq hG (se_slice hG (se_var hG (i := 4) rfl rfl (by decide) (by decide)) (so_some (se_int)) (so_some (se_op (o_add hG) ops_addD (se_int) (se_ix hG rfl (se_var hG (i := 4) rfl rfl (by decide) (by decide)) (se_int)))))) rfl rfl rfl rfl rfl (by decide +kernel) (sg_name (blk_fm hG) (i := 9) rfl rfl) (by decide) (sf_nil) (se_op (o_mod (blk_fm hG)) ops_modD (se_callT (blk_fm hG) (c_int (blk_fm hG)) cas_int rfl (H.free _ rfl) (by decide +kernel) rfl rfl (sa_cons rfl (se_var (blk_fm hG) (i := 9) rfl rfl (by decide) (by decide)) (sa_nil)) (by decide) (by decide)) (se_op (o_shl (blk_fm hG)) ops_shlD (se_int) (se_callB (blk_fm hG) (c_len (blk_fm hG)) cas_len rfl (H.free _ rfl) (by decide +kernel) rfl rfl (sa_cons rfl (se_var (blk_fm hG) (i := 5) rfl rfl (by decide) (by decide)) (sa_nil)) (by decide) (by decide))))) (sss_one (ss_ret (se_tup (sa_cons rfl (se_str) (sa_cons rfl (se_var hG (i := 6) rfl rfl (by decide) (by decide)) (sa_cons rfl (se_fn hG ok__law_terms (by decide) rfl (H.glo _ rfl).1 (H.glo _ rfl).2 rfl rfl (sa_cons rfl (se_var hG (i := 5) rfl rfl (by decide) (by decide)) (sa_cons rfl (se_var hG (i := 8) rfl rfl (by decide) (by decide)) (sa_nil))) (by decide)) (sa_nil)))))))))))
def N__law_house_numbers : List Str := ["_law_row", "_law_hearing"]
def m__law_house_numbers (K : PySem.W.Frag) : Sl → LH → RS := sSeq (sIf (bVal (eOp eqD (eOp ixD (eVar 0) (eK (.int 0))) (eK (.str "rows")))) (sRet (eOp ixD (eVar 0) (eK (.int 1)))) (sNx)) (sRet (eCall tupleD (aCons (eLc (iSrc (eOp ixD (eVar 0) (eK (.int 1)))) (gNm 1) (bYes) (eOp ixD (eVar 1) (eK (.int 0))) [1]) (aNil))))
def F__law_house_numbers (K : PySem.W.Frag) : Fn := fnD N__law_house_numbers (m__law_house_numbers K)
theorem S__law_house_numbers : FnScope N__law_house_numbers ["_law_row"] (defScope s_law_house_numbers) := ⟨rfl, rfl, rfl, by decide +kernel, rfl, by decide +kernel, by decide +kernel⟩
theorem b__law_house_numbers {G : Pr} {T : Tb} {qual : Str} {f0 : Addr} {cdv : Value} {E : XK} (H : HyP G) (hA : AOk G.K (cf G.K))  : SSs (DefF G N__law_house_numbers qual (defScope s_law_house_numbers) f0 cdv 1 E) T (WD E) (defBody s_law_house_numbers) (m__law_house_numbers G.K) := by
  have hG := def_fm (G := G) (qual := qual) (f := f0) (cdv := cdv) (k := 1) (E := E) S__law_house_numbers
  have hO := def_own (G := G) (N := N__law_house_numbers) (qual := qual) (scope := defScope s_law_house_numbers) (f := f0) (cdv := cdv) (k := 1) (E := E)
  exact sss_cons (ss_if (sb_cmp (o_eq hG) ops_eqD (se_ix hG rfl (se_var hG (i := 0) rfl rfl (by decide) (by decide)) (se_int)) (se_str) (by with_unfolding_all rfl)) (sss_one (ss_ret (se_ix hG rfl (se_var hG (i := 0) rfl rfl (by decide) (by decide)) (se_int)))) (sss_nil)) (sss_one (ss_ret (se_callT hG (c_tuple hG) cas_tuple rfl (H.free _ rfl) (by decide +kernel) rfl rfl (sa_cons rfl (se_lc (own := [("_law_hearing", 1)]) hG (blkOk_by (by decide +kernel)) (si_seq hG (se_ix hG rfl (se_var hG (i := 0) rfl rfl (by decide) (by decide)) (se_int))) rfl (sg_name (blk_fm hG) (i := 1) rfl rfl) (by decide) (sf_nil) (se_ix (blk_fm hG) rfl (se_var (blk_fm hG) (i := 1) rfl rfl (by decide) (by decide)) (se_int))) (sa_nil)) (by decide) (by decide))))
def N__law_mark : List Str := ["_law_top", "_law_level"]
def m__law_mark (K : PySem.W.Frag) : Sl → LH → RS := sSeq (sIf (bVal (eOp eqD (eVar 1) (eK (.int 0)))) (sRet (eK (.int 0))) (sNx)) (sRet (eIf (bVal (eOp eqD (eVar 1) (eVar 0))) (eK (.int 1)) (eK (.int 2))))
def F__law_mark (K : PySem.W.Frag) : Fn := fnD N__law_mark (m__law_mark K)
theorem S__law_mark : FnScope N__law_mark ["_law_top", "_law_level"] (defScope s_law_mark) := ⟨rfl, rfl, rfl, by decide +kernel, rfl, by decide +kernel, by decide +kernel⟩
theorem b__law_mark {G : Pr} {T : Tb} {qual : Str} {f0 : Addr} {cdv : Value} {E : XK} (H : HyP G) (hA : AOk G.K (cf G.K))  : SSs (DefF G N__law_mark qual (defScope s_law_mark) f0 cdv 1 E) T (WD E) (defBody s_law_mark) (m__law_mark G.K) := by
  have hG := def_fm (G := G) (qual := qual) (f := f0) (cdv := cdv) (k := 1) (E := E) S__law_mark
  have hO := def_own (G := G) (N := N__law_mark) (qual := qual) (scope := defScope s_law_mark) (f := f0) (cdv := cdv) (k := 1) (E := E)
  exact sss_cons (ss_if (sb_cmp (o_eq hG) ops_eqD (se_var hG (i := 1) rfl rfl (by decide) (by decide)) (se_int) (by with_unfolding_all rfl)) (sss_one (ss_ret (se_int))) (sss_nil)) (sss_one (ss_ret (se_if (sb_cmp (o_eq hG) ops_eqD (se_var hG (i := 1) rfl rfl (by decide) (by decide)) (se_var hG (i := 0) rfl rfl (by decide) (by decide)) (by with_unfolding_all rfl)) (se_int) (se_int))))
def N__law_value : List Str := ["_law_row", "_law_state", "_law_index", "_law_house", "_law_term", "_law_missed", "_law_sign"]
def m__law_value (K : PySem.W.Frag) : Sl → LH → RS := sSeq (sIf (bVal (eOp eqD (eOp ixD (eVar 0) (eK (.int 0))) (eK (.str "rows")))) (sSeq (sAsg (eK (.int 0)) (gNm 2)) (sSeq (sFor (iSrc (eOp ixD (eVar 0) (eK (.int 1)))) (gNm 3) (sAsg (eOp addD (eOp mulD (eK (.int 2)) (eVar 2)) (eOp ixD (eVar 1) (eVar 3))) (gNm 2))) (sRet (eOp ixD (eOp ixD (eVar 0) (eK (.int 2))) (eVar 2))))) (sNx)) (sSeq (sFor (iSrc (eOp ixD (eVar 0) (eK (.int 2)))) (gNm 4) (sSeq (sAsg (eLc (iSrc (eOp ixD (eVar 0) (eK (.int 1)))) (gTp 2 (gCon (gNm 3) (gCon (gNm 6) (gNil')))) (bAnd (bVal (eOp (inD false) (eVar 3) (eVar 4))) (bVal (eOp neD (eOp ixD (eVar 1) (eVar 3)) (eOp fdivD (eOp addD (eVar 6) (eK (.int 1))) (eK (.int 2)))))) (eVar 3) [3, 6]) (gNm 5)) (sIf (bNot (bTru (eVar 5))) (sRet (eK (.int 1))) (sNx)))) (sRet (eK (.int 0))))
def F__law_value (K : PySem.W.Frag) : Fn := fnD N__law_value (m__law_value K)
theorem S__law_value : FnScope N__law_value ["_law_row", "_law_state"] (defScope s_law_value) := ⟨rfl, rfl, rfl, by decide +kernel, rfl, by decide +kernel, by decide +kernel⟩
theorem b__law_value {G : Pr} {T : Tb} {qual : Str} {f0 : Addr} {cdv : Value} {E : XK} (H : HyP G) (hA : AOk G.K (cf G.K))  : SSs (DefF G N__law_value qual (defScope s_law_value) f0 cdv 1 E) T (WD E) (defBody s_law_value) (m__law_value G.K) := by
  have hG := def_fm (G := G) (qual := qual) (f := f0) (cdv := cdv) (k := 1) (E := E) S__law_value
  have hO := def_own (G := G) (N := N__law_value) (qual := qual) (scope := defScope s_law_value) (f := f0) (cdv := cdv) (k := 1) (E := E)
  exact sss_cons (ss_if (sb_cmp (o_eq hG) ops_eqD (se_ix hG rfl (se_var hG (i := 0) rfl rfl (by decide) (by decide)) (se_int)) (se_str) (by with_unfolding_all rfl)) (sss_cons (ss_set (i := 2) hG rfl rfl rfl (se_int)) (sss_cons (ss_for hG hO (si_seq hG (se_ix hG rfl (se_var hG (i := 0) rfl rfl (by decide) (by decide)) (se_int))) rfl (sg_name hG (i := 3) rfl rfl) (sss_one (ss_set (i := 2) hG rfl rfl rfl (se_op (o_add hG) ops_addD (se_op (o_mul hG) ops_mulD (se_int) (se_var hG (i := 2) rfl rfl (by decide) (by decide))) (se_ix hG rfl (se_var hG (i := 1) rfl rfl (by decide) (by decide)) (se_var hG (i := 3) rfl rfl (by decide) (by decide))))))) (sss_one (ss_ret (se_ix hG rfl (se_ix hG rfl (se_var hG (i := 0) rfl rfl (by decide) (by decide)) (se_int)) (se_var hG (i := 2) rfl rfl (by decide) (by decide))))))) (sss_nil)) (sss_cons (ss_for hG hO (si_seq hG (se_ix hG rfl (se_var hG (i := 0) rfl rfl (by decide) (by decide)) (se_int))) rfl (sg_cell hG (i := 4) rfl rfl def_fn) (sss_cons (ss_lc (own := [("_law_house", 3), ("_law_sign", 6)]) (i := 5) hG (blkOk_by (by decide +kernel)) (si_seq hG (se_ix hG rfl (se_var hG (i := 0) rfl rfl (by decide) (by decide)) (se_int))) rfl rfl rfl rfl rfl (by decide +kernel) (sg_tup (blk_fm hG) rfl (sgs_cons rfl (sg_name (blk_fm hG) (i := 3) rfl rfl) (sgs_cons rfl (sg_name (blk_fm hG) (i := 6) rfl rfl) (sgs_nil)))) (by decide) (sf_one (sb_sw (sw_and (sb_cmp (o_in (blk_fm hG) (by decide)) ops_inA (se_var (blk_fm hG) (i := 3) rfl rfl (by decide) (by decide)) (se_var (blk_fm hG) (i := 4) rfl rfl (by decide) (by decide)) (by with_unfolding_all rfl)) (sw_and1 (sb_cmp (o_ne (blk_fm hG)) ops_neD (se_ix (blk_fm hG) rfl (se_var (blk_fm hG) (i := 1) rfl rfl (by decide) (by decide)) (se_var (blk_fm hG) (i := 3) rfl rfl (by decide) (by decide))) (se_op (o_fdiv (blk_fm hG)) ops_fdivD (se_op (o_add (blk_fm hG)) ops_addD (se_var (blk_fm hG) (i := 6) rfl rfl (by decide) (by decide)) (se_int)) (se_int)) (by with_unfolding_all rfl)))))) (se_var (blk_fm hG) (i := 3) rfl rfl (by decide) (by decide))) (sss_one (ss_if (sb_not (sb_tru (fun _ _ => rfl) hG (se_var hG (i := 5) rfl rfl (by decide) (by decide)))) (sss_one (ss_ret (se_int))) (sss_nil))))) (sss_one (ss_ret (se_int))))
def N__law_beat : List Str := ["_law_rows", "_law_top", "_law_levels", "_law_draws_here", "_law_size", "_law_moves", "_law_house", "_law_heard_here", "_law_seen", "_law_k", "_law_mark_here", "_law_step", "_law_other"]
def m__law_beat (K : PySem.W.Frag) : Sl → LH → RS := sSeq (sAsg (eCall lenD (aCons (eVar 0) (aNil))) (gNm 4)) (sSeq (sAsg (eLst (aNil)) (gNm 5)) (sSeq (sFor (iArg rng1D (aCons (eVar 4) (aNil))) (gNm 6) (sSeq (sAsg (eFn 1 (F__law_house_numbers K) (aCons (eOp ixD (eVar 0) (eVar 6)) (aNil))) (gNm 7)) (sSeq (sAsg (eOp mulD (eLst (aCons (eK (.int 0)) (aNil))) (eVar 4)) (gNm 8)) (sSeq (sFor (iArg rng1D (aCons (eCall lenD (aCons (eVar 7) (aNil))) (aNil))) (gNm 9) (sSeq (sAsg (eFn 2 (F__law_mark K) (aCons (eVar 1) (aCons (eOp ixD (eVar 2) (eOp ixD (eVar 7) (eVar 9))) (aNil)))) (gNm 10)) (sSet (eVar 8) (eOp ixD (eVar 7) (eVar 9)) (eIf (bVal (eOp eqD (eVar 10) (eK (.int 2)))) (eOp ixD (eVar 3) (eOp addD (eOp addD (eVar 4) (eOp mulD (eK (.int 4)) (eVar 6))) (eVar 9))) (eVar 10))))) (sSeq (sAsg (eOp subD (eOp mulD (eK (.int 2)) (eFn 2 (F__law_value K) (aCons (eOp ixD (eVar 0) (eVar 6)) (aCons (eVar 8) (aNil))))) (eK (.int 1))) (gNm 11)) (sIf (bAnd (bVal (eOp gtD (eOp ixD (eVar 3) (eVar 6)) (eK (.int 0)))) (bVal (eChain leD leD (eK (.int 0)) (eOp addD (eOp ixD (eVar 2) (eVar 6)) (eVar 11)) (eVar 1)))) (sDrop (eBm isL appendD (eVar 5) (aCons (eTup (aCons (eVar 6) (aCons (eVar 11) (aCons (eCall tupleD (aCons (eLc (iSrc (eVar 7)) (gNm 12) (bYes) (eOp ixD (eVar 8) (eVar 12)) [12]) (aNil))) (aNil))))) (aNil)))) (sNx))))))) (sRet (eVar 5))))
def F__law_beat (K : PySem.W.Frag) : Fn := fnD N__law_beat (m__law_beat K)
theorem S__law_beat : FnScope N__law_beat ["_law_rows", "_law_top", "_law_levels", "_law_draws_here"] (defScope s_law_beat) := ⟨rfl, rfl, rfl, by decide +kernel, rfl, by decide +kernel, by decide +kernel⟩
theorem b__law_beat {G : Pr} {T : Tb} {qual : Str} {f0 : Addr} {cdv : Value} {E : XK} (H : HyP G) (hA : AOk G.K (cf G.K)) (ok__law_house_numbers : FG G T 2 (He.ga G.K "_law_house_numbers") 1 (F__law_house_numbers G.K)) (ok__law_mark : FG G T 2 (He.ga G.K "_law_mark") 2 (F__law_mark G.K)) (ok__law_value : FG G T 2 (He.ga G.K "_law_value") 2 (F__law_value G.K)) : SSs (DefF G N__law_beat qual (defScope s_law_beat) f0 cdv 2 E) T (WD E) (defBody s_law_beat) (m__law_beat G.K) := by
  have hG := def_fm (G := G) (qual := qual) (f := f0) (cdv := cdv) (k := 2) (E := E) S__law_beat
  have hO := def_own (G := G) (N := N__law_beat) (qual := qual) (scope := defScope s_law_beat) (f := f0) (cdv := cdv) (k := 2) (E := E)
  exact sss_cons (ss_set (i := 4) hG rfl rfl rfl (se_callB hG (c_len hG) cas_len rfl (H.free _ rfl) (by decide +kernel) rfl rfl (sa_cons rfl (se_var hG (i := 0) rfl rfl (by decide) (by decide)) (sa_nil)) (by decide) (by decide))) (sss_cons (ss_set (i := 5) hG rfl rfl rfl (se_lst (sa_nil))) (sss_cons (ss_for hG hO (si_rng1 hG rfl (H.free _ rfl) rfl (sa_cons rfl (se_var hG (i := 4) rfl rfl (by decide) (by decide)) (sa_nil))) rfl (sg_name hG (i := 6) rfl rfl) (sss_cons (ss_set (i := 7) hG rfl rfl rfl (se_fn hG ok__law_house_numbers (by decide) rfl (H.glo _ rfl).1 (H.glo _ rfl).2 rfl rfl (sa_cons rfl (se_ix hG rfl (se_var hG (i := 0) rfl rfl (by decide) (by decide)) (se_var hG (i := 6) rfl rfl (by decide) (by decide))) (sa_nil)) (by decide))) (sss_cons (ss_setC (i := 8) hG rfl rfl def_fn (se_op (o_mul hG) ops_mulD (se_lst (sa_cons rfl (se_int) (sa_nil))) (se_var hG (i := 4) rfl rfl (by decide) (by decide))) rfl) (sss_cons (ss_for hG hO (si_rng1 hG rfl (H.free _ rfl) rfl (sa_cons rfl (se_callB hG (c_len hG) cas_len rfl (H.free _ rfl) (by decide +kernel) rfl rfl (sa_cons rfl (se_var hG (i := 7) rfl rfl (by decide) (by decide)) (sa_nil)) (by decide) (by decide)) (sa_nil))) rfl (sg_name hG (i := 9) rfl rfl) (sss_cons (ss_set (i := 10) hG rfl rfl rfl (se_fn hG ok__law_mark (by decide) rfl (H.glo _ rfl).1 (H.glo _ rfl).2 rfl rfl (sa_cons rfl (se_var hG (i := 1) rfl rfl (by decide) (by decide)) (sa_cons rfl (se_ix hG rfl (se_var hG (i := 2) rfl rfl (by decide) (by decide)) (se_ix hG rfl (se_var hG (i := 7) rfl rfl (by decide) (by decide)) (se_var hG (i := 9) rfl rfl (by decide) (by decide)))) (sa_nil))) (by decide))) (sss_one (ss_sub rfl rfl (se_var hG (i := 8) rfl rfl (by decide) (by decide)) (se_ix hG rfl (se_var hG (i := 7) rfl rfl (by decide) (by decide)) (se_var hG (i := 9) rfl rfl (by decide) (by decide))) (se_if (sb_cmp (o_eq hG) ops_eqD (se_var hG (i := 10) rfl rfl (by decide) (by decide)) (se_int) (by with_unfolding_all rfl)) (se_ix hG rfl (se_var hG (i := 3) rfl rfl (by decide) (by decide)) (se_op (o_add hG) ops_addD (se_op (o_add hG) ops_addD (se_var hG (i := 4) rfl rfl (by decide) (by decide)) (se_op (o_mul hG) ops_mulD (se_int) (se_var hG (i := 6) rfl rfl (by decide) (by decide)))) (se_var hG (i := 9) rfl rfl (by decide) (by decide)))) (se_var hG (i := 10) rfl rfl (by decide) (by decide))) (fun _ _ => rfl) (fun _ _ _ => rfl))))) (sss_cons (ss_set (i := 11) hG rfl rfl rfl (se_op (o_sub hG) ops_subD (se_op (o_mul hG) ops_mulD (se_int) (se_fn hG ok__law_value (by decide) rfl (H.glo _ rfl).1 (H.glo _ rfl).2 rfl rfl (sa_cons rfl (se_ix hG rfl (se_var hG (i := 0) rfl rfl (by decide) (by decide)) (se_var hG (i := 6) rfl rfl (by decide) (by decide))) (sa_cons rfl (se_var hG (i := 8) rfl rfl (by decide) (by decide)) (sa_nil))) (by decide))) (se_int))) (sss_one (ss_if (sb_sw (sw_and (sb_cmp (o_gt hG) ops_gtD (se_ix hG rfl (se_var hG (i := 3) rfl rfl (by decide) (by decide)) (se_var hG (i := 6) rfl rfl (by decide) (by decide))) (se_int) (by with_unfolding_all rfl)) (sw_and1 (sb_chain (o_le hG) ops_leD (o_le hG) ops_leD (se_int) (se_op (o_add hG) ops_addD (se_ix hG rfl (se_var hG (i := 2) rfl rfl (by decide) (by decide)) (se_var hG (i := 6) rfl rfl (by decide) (by decide))) (se_var hG (i := 11) rfl rfl (by decide) (by decide))) (se_var hG (i := 1) rfl rfl (by decide) (by decide)) (by with_unfolding_all rfl))))) (sss_one (ss_expr rfl (se_bm hG F.plainAttrs_list F.slot_list_append F.type_list_append (fun _ _ => mt_append) mts_append (se_var hG (i := 5) rfl rfl (by decide) (by decide)) rfl rfl (sa_cons rfl (se_tup (sa_cons rfl (se_var hG (i := 6) rfl rfl (by decide) (by decide)) (sa_cons rfl (se_var hG (i := 11) rfl rfl (by decide) (by decide)) (sa_cons rfl (se_callT hG (c_tuple hG) cas_tuple rfl (H.free _ rfl) (by decide +kernel) rfl rfl (sa_cons rfl (se_lc (own := [("_law_other", 12)]) hG (blkOk_by (by decide +kernel)) (si_seq hG (se_var hG (i := 7) rfl rfl (by decide) (by decide))) rfl (sg_name (blk_fm hG) (i := 12) rfl rfl) (by decide) (sf_nil) (se_ix (blk_fm hG) rfl (se_var (blk_fm hG) (i := 8) rfl rfl (by decide) (by decide)) (se_var (blk_fm hG) (i := 12) rfl rfl (by decide) (by decide)))) (sa_nil)) (by decide) (by decide)) (sa_nil))))) (sa_nil)) ⟨fun _ _ => rfl, fun _ _ => rfl⟩ rfl))) (sss_nil)))))))) (sss_one (ss_ret (se_var hG (i := 5) rfl rfl (by decide) (by decide))))))
def N__law_run : List Str := ["_law_rows", "_law_top", "_law_start", "_law_script", "_law_count", "_law_size", "_law_walked", "_law_digit", "_law_run_here", "_law_beat_here", "_law_draws_here", "_law_moves", "_law_after", "_law_house", "_law_step", "_law_digits"]
def m__law_run (K : PySem.W.Frag) : Sl → LH → RS := sSeq (sAsg (eCall lenD (aCons (eVar 0) (aNil))) (gNm 5)) (sSeq (sAsg (eLst (aCons (eCall tupleD (aCons (eLc (iSrc (eVar 2)) (gNm 7) (bYes) (eOp mulD (eVar 1) (eVar 7)) [7]) (aNil))) (aNil))) (gNm 6)) (sSeq (sAsg (eLst (aNil)) (gNm 8)) (sSeq (sFor (iArg rng1D (aCons (eVar 4) (aNil))) (gNm 9) (sSeq (sAsg (eFn 2 (F__law_draws K) (aCons (eOp addD (eFn 2 (F__law_cell K) (aCons (eVar 3) (aCons (eOp addD (eK (.int 16)) (eVar 9)) (aNil)))) (eVar 9)) (aCons (eOp addD (eOp mulD (eLst (aCons (eK (.int 4)) (aNil))) (eVar 5)) (eOp mulD (eLst (aCons (eK (.int 2)) (aNil))) (eOp mulD (eK (.int 4)) (eVar 5)))) (aNil)))) (gNm 10)) (sSeq (sAsg (eFn 4 (F__law_beat K) (aCons (eVar 0) (aCons (eVar 1) (aCons (eOp ixD (eVar 6) (eUn negD (eK (.int 1)))) (aCons (eVar 10) (aNil)))))) (gNm 11)) (sSeq (sAsg (eCall listD (aCons (eOp ixD (eVar 6) (eUn negD (eK (.int 1)))) (aNil))) (gNm 12)) (sSeq (sFor (iSrc (eVar 11)) (gTp 3 (gCon (gNm 13) (gCon (gNm 14) (gCon (gNm 15) (gNil'))))) (sSet (eVar 12) (eVar 13) (eOp addD (eOp ixD (eVar 12) (eVar 13)) (eVar 14)))) (sSeq (sDrop (eBm isL appendD (eVar 8) (aCons (eVar 11) (aNil)))) (sDrop (eBm isL appendD (eVar 6) (aCons (eCall tupleD (aCons (eVar 12) (aNil))) (aNil)))))))))) (sRet (eTup (aCons (eVar 8) (aCons (eVar 6) (aNil))))))))
def F__law_run (K : PySem.W.Frag) : Fn := fnD N__law_run (m__law_run K)
theorem S__law_run : FnScope N__law_run ["_law_rows", "_law_top", "_law_start", "_law_script", "_law_count"] (defScope s_law_run) := ⟨rfl, rfl, rfl, by decide +kernel, rfl, by decide +kernel, by decide +kernel⟩
theorem b__law_run {G : Pr} {T : Tb} {qual : Str} {f0 : Addr} {cdv : Value} {E : XK} (H : HyP G) (hA : AOk G.K (cf G.K)) (ok__law_beat : FG G T 3 (He.ga G.K "_law_beat") 4 (F__law_beat G.K)) (ok__law_cell : FG G T 2 (He.ga G.K "_law_cell") 2 (F__law_cell G.K)) (ok__law_draws : FG G T 2 (He.ga G.K "_law_draws") 2 (F__law_draws G.K)) : SSs (DefF G N__law_run qual (defScope s_law_run) f0 cdv 3 E) T (WD E) (defBody s_law_run) (m__law_run G.K) := by
  have hG := def_fm (G := G) (qual := qual) (f := f0) (cdv := cdv) (k := 3) (E := E) S__law_run
  have hO := def_own (G := G) (N := N__law_run) (qual := qual) (scope := defScope s_law_run) (f := f0) (cdv := cdv) (k := 3) (E := E)
  exact sss_cons (ss_set (i := 5) hG rfl rfl rfl (se_callB hG (c_len hG) cas_len rfl (H.free _ rfl) (by decide +kernel) rfl rfl (sa_cons rfl (se_var hG (i := 0) rfl rfl (by decide) (by decide)) (sa_nil)) (by decide) (by decide))) (sss_cons (ss_set (i := 6) hG rfl rfl rfl (se_lst (sa_cons rfl (se_callT hG (c_tuple hG) cas_tuple rfl (H.free _ rfl) (by decide +kernel) rfl rfl (sa_cons rfl (se_lc (own := [("_law_digit", 7)]) hG (blkOk_by (by decide +kernel)) (si_seq hG (se_var hG (i := 2) rfl rfl (by decide) (by decide))) rfl (sg_name (blk_fm hG) (i := 7) rfl rfl) (by decide) (sf_nil) (se_op (o_mul (blk_fm hG)) ops_mulD (se_var (blk_fm hG) (i := 1) rfl rfl (by decide) (by decide)) (se_var (blk_fm hG) (i := 7) rfl rfl (by decide) (by decide)))) (sa_nil)) (by decide) (by decide)) (sa_nil)))) (sss_cons (ss_set (i := 8) hG rfl rfl rfl (se_lst (sa_nil))) (sss_cons (ss_for hG hO (si_rng1 hG rfl (H.free _ rfl) rfl (sa_cons rfl (se_var hG (i := 4) rfl rfl (by decide) (by decide)) (sa_nil))) rfl (sg_name hG (i := 9) rfl rfl) (sss_cons (ss_set (i := 10) hG rfl rfl rfl (se_fn hG ok__law_draws (by decide) rfl (H.glo _ rfl).1 (H.glo _ rfl).2 rfl rfl (sa_cons rfl (se_op (o_add hG) ops_addD (se_fn hG ok__law_cell (by decide) rfl (H.glo _ rfl).1 (H.glo _ rfl).2 rfl rfl (sa_cons rfl (se_var hG (i := 3) rfl rfl (by decide) (by decide)) (sa_cons rfl (se_op (o_add hG) ops_addD (se_int) (se_var hG (i := 9) rfl rfl (by decide) (by decide))) (sa_nil))) (by decide)) (se_var hG (i := 9) rfl rfl (by decide) (by decide))) (sa_cons rfl (se_op (o_add hG) ops_addD (se_op (o_mul hG) ops_mulD (se_lst (sa_cons rfl (se_int) (sa_nil))) (se_var hG (i := 5) rfl rfl (by decide) (by decide))) (se_op (o_mul hG) ops_mulD (se_lst (sa_cons rfl (se_int) (sa_nil))) (se_op (o_mul hG) ops_mulD (se_int) (se_var hG (i := 5) rfl rfl (by decide) (by decide))))) (sa_nil))) (by decide))) (sss_cons (ss_set (i := 11) hG rfl rfl rfl (se_fn hG ok__law_beat (by decide) rfl (H.glo _ rfl).1 (H.glo _ rfl).2 rfl rfl (sa_cons rfl (se_var hG (i := 0) rfl rfl (by decide) (by decide)) (sa_cons rfl (se_var hG (i := 1) rfl rfl (by decide) (by decide)) (sa_cons rfl (se_ix hG rfl (se_var hG (i := 6) rfl rfl (by decide) (by decide)) (se_un (o_neg hG) uns_negD (se_int))) (sa_cons rfl (se_var hG (i := 10) rfl rfl (by decide) (by decide)) (sa_nil))))) (by decide))) (sss_cons (ss_set (i := 12) hG rfl rfl rfl (se_callT hG (c_list hG) cas_list rfl (H.free _ rfl) (by decide +kernel) rfl rfl (sa_cons rfl (se_ix hG rfl (se_var hG (i := 6) rfl rfl (by decide) (by decide)) (se_un (o_neg hG) uns_negD (se_int))) (sa_nil)) (by decide) (by decide))) (sss_cons (ss_for hG hO (si_seq hG (se_var hG (i := 11) rfl rfl (by decide) (by decide))) rfl (sg_tup hG rfl (sgs_cons rfl (sg_name hG (i := 13) rfl rfl) (sgs_cons rfl (sg_name hG (i := 14) rfl rfl) (sgs_cons rfl (sg_name hG (i := 15) rfl rfl) (sgs_nil))))) (sss_one (ss_sub rfl rfl (se_var hG (i := 12) rfl rfl (by decide) (by decide)) (se_var hG (i := 13) rfl rfl (by decide) (by decide)) (se_op (o_add hG) ops_addD (se_ix hG rfl (se_var hG (i := 12) rfl rfl (by decide) (by decide)) (se_var hG (i := 13) rfl rfl (by decide) (by decide))) (se_var hG (i := 14) rfl rfl (by decide) (by decide))) (fun _ _ => rfl) (fun _ _ _ => rfl)))) (sss_cons (ss_expr rfl (se_bm hG F.plainAttrs_list F.slot_list_append F.type_list_append (fun _ _ => mt_append) mts_append (se_var hG (i := 8) rfl rfl (by decide) (by decide)) rfl rfl (sa_cons rfl (se_var hG (i := 11) rfl rfl (by decide) (by decide)) (sa_nil)) ⟨fun _ _ => rfl, fun _ _ => rfl⟩ rfl)) (sss_one (ss_expr rfl (se_bm hG F.plainAttrs_list F.slot_list_append F.type_list_append (fun _ _ => mt_append) mts_append (se_var hG (i := 6) rfl rfl (by decide) (by decide)) rfl rfl (sa_cons rfl (se_callT hG (c_tuple hG) cas_tuple rfl (H.free _ rfl) (by decide +kernel) rfl rfl (sa_cons rfl (se_var hG (i := 12) rfl rfl (by decide) (by decide)) (sa_nil)) (by decide) (by decide)) (sa_nil)) ⟨fun _ _ => rfl, fun _ _ => rfl⟩ rfl))))))))) (sss_one (ss_ret (se_tup (sa_cons rfl (se_var hG (i := 8) rfl rfl (by decide) (by decide)) (sa_cons rfl (se_var hG (i := 6) rfl rfl (by decide) (by decide)) (sa_nil)))))))))
def N__law_lists : List Str := ["_law_row", "_law_hearing", "_law_term"]
def m__law_lists (K : PySem.W.Frag) : Sl → LH → RS := sSeq (sIf (bVal (eOp eqD (eOp ixD (eVar 0) (eK (.int 0))) (eK (.str "rows")))) (sRet (eLst (aCons (eK (.str "rows")) (aCons (eCall listD (aCons (eOp ixD (eVar 0) (eK (.int 1))) (aNil))) (aCons (eCall listD (aCons (eOp ixD (eVar 0) (eK (.int 2))) (aNil))) (aNil)))))) (sNx)) (sRet (eLst (aCons (eK (.str "terms")) (aCons (eLc (iSrc (eOp ixD (eVar 0) (eK (.int 1)))) (gNm 1) (bYes) (eCall listD (aCons (eVar 1) (aNil))) [1]) (aCons (eLc (iSrc (eOp ixD (eVar 0) (eK (.int 2)))) (gNm 2) (bYes) (eCall listD (aCons (eVar 2) (aNil))) [2]) (aNil))))))
def F__law_lists (K : PySem.W.Frag) : Fn := fnD N__law_lists (m__law_lists K)
theorem S__law_lists : FnScope N__law_lists ["_law_row"] (defScope s_law_lists) := ⟨rfl, rfl, rfl, by decide +kernel, rfl, by decide +kernel, by decide +kernel⟩
theorem b__law_lists {G : Pr} {T : Tb} {qual : Str} {f0 : Addr} {cdv : Value} {E : XK} (H : HyP G) (hA : AOk G.K (cf G.K))  : SSs (DefF G N__law_lists qual (defScope s_law_lists) f0 cdv 1 E) T (WD E) (defBody s_law_lists) (m__law_lists G.K) := by
  have hG := def_fm (G := G) (qual := qual) (f := f0) (cdv := cdv) (k := 1) (E := E) S__law_lists
  have hO := def_own (G := G) (N := N__law_lists) (qual := qual) (scope := defScope s_law_lists) (f := f0) (cdv := cdv) (k := 1) (E := E)
  exact sss_cons (ss_if (sb_cmp (o_eq hG) ops_eqD (se_ix hG rfl (se_var hG (i := 0) rfl rfl (by decide) (by decide)) (se_int)) (se_str) (by with_unfolding_all rfl)) (sss_one (ss_ret (se_lst (sa_cons rfl (se_str) (sa_cons rfl (se_callT hG (c_list hG) cas_list rfl (H.free _ rfl) (by decide +kernel) rfl rfl (sa_cons rfl (se_ix hG rfl (se_var hG (i := 0) rfl rfl (by decide) (by decide)) (se_int)) (sa_nil)) (by decide) (by decide)) (sa_cons rfl (se_callT hG (c_list hG) cas_list rfl (H.free _ rfl) (by decide +kernel) rfl rfl (sa_cons rfl (se_ix hG rfl (se_var hG (i := 0) rfl rfl (by decide) (by decide)) (se_int)) (sa_nil)) (by decide) (by decide)) (sa_nil))))))) (sss_nil)) (sss_one (ss_ret (se_lst (sa_cons rfl (se_str) (sa_cons rfl (se_lc (own := [("_law_hearing", 1)]) hG (blkOk_by (by decide +kernel)) (si_seq hG (se_ix hG rfl (se_var hG (i := 0) rfl rfl (by decide) (by decide)) (se_int))) rfl (sg_name (blk_fm hG) (i := 1) rfl rfl) (by decide) (sf_nil) (se_callT (blk_fm hG) (c_list (blk_fm hG)) cas_list rfl (H.free _ rfl) (by decide +kernel) rfl rfl (sa_cons rfl (se_var (blk_fm hG) (i := 1) rfl rfl (by decide) (by decide)) (sa_nil)) (by decide) (by decide))) (sa_cons rfl (se_lc (own := [("_law_term", 2)]) hG (blkOk_by (by decide +kernel)) (si_seq hG (se_ix hG rfl (se_var hG (i := 0) rfl rfl (by decide) (by decide)) (se_int))) rfl (sg_name (blk_fm hG) (i := 2) rfl rfl) (by decide) (sf_nil) (se_callT (blk_fm hG) (c_list (blk_fm hG)) cas_list rfl (H.free _ rfl) (by decide +kernel) rfl rfl (sa_cons rfl (se_var (blk_fm hG) (i := 2) rfl rfl (by decide) (by decide)) (sa_nil)) (by decide) (by decide))) (sa_nil)))))))
def N_is_size : List Str := ["count"]
def m_is_size (K : PySem.W.Frag) : Sl → LH → RS := sRet (eChain leD leD (eK (.int 1)) (eVar 0) (eK (.int 12)))
def F_is_size (K : PySem.W.Frag) : Fn := fnD N_is_size (m_is_size K)
theorem S_is_size : FnScope N_is_size ["count"] (defScope s_is_size) := ⟨rfl, rfl, rfl, by decide +kernel, rfl, by decide +kernel, by decide +kernel⟩
theorem b_is_size {G : Pr} {T : Tb} {qual : Str} {f0 : Addr} {cdv : Value} {E : XK} (H : HyP G) (hA : AOk G.K (cf G.K))  : SSs (DefF G N_is_size qual (defScope s_is_size) f0 cdv 1 E) T (WD E) (defBody s_is_size) (m_is_size G.K) := by
  have hG := def_fm (G := G) (qual := qual) (f := f0) (cdv := cdv) (k := 1) (E := E) S_is_size
  have hO := def_own (G := G) (N := N_is_size) (qual := qual) (scope := defScope s_is_size) (f := f0) (cdv := cdv) (k := 1) (E := E)
  exact sss_one (ss_ret (se_chain (o_le hG) ops_leD (o_le hG) ops_leD (se_int) (se_var hG (i := 0) rfl rfl (by decide) (by decide)) (se_gi hG rfl (H.int _ _ rfl) (by decide)) (by with_unfolding_all rfl)))
def N_is_ascending : List Str := ["row"]
def m_is_ascending (K : PySem.W.Frag) : Sl → LH → RS := sRet (eAg true (iArg rng2D (aCons (eK (.int 1)) (aCons (eCall lenD (aCons (eVar 0) (aNil))) (aNil)))) (gNm 0) (eOp ltD (eOp ixD (eVar 1) (eOp subD (eVar 0) (eK (.int 1)))) (eOp ixD (eVar 1) (eVar 0))) [none, some 0])
def F_is_ascending (K : PySem.W.Frag) : Fn := fnD N_is_ascending (m_is_ascending K)
theorem S_is_ascending : FnScope N_is_ascending ["row"] (defScope s_is_ascending) := ⟨rfl, rfl, rfl, by decide +kernel, rfl, by decide +kernel, by decide +kernel⟩
theorem b_is_ascending {G : Pr} {T : Tb} {qual : Str} {f0 : Addr} {cdv : Value} {E : XK} (H : HyP G) (hA : AOk G.K (cf G.K)) {cd P0 : Addr} (hC : ∀ k E, CdOk (DefF G N_is_ascending qual (defScope s_is_ascending) f0 cdv k E) G T cd P0) : SSs (DefF G N_is_ascending qual (defScope s_is_ascending) f0 cdv 2 E) T (WD E) (defBody s_is_ascending) (m_is_ascending G.K) := by
  have hG := def_fm (G := G) (qual := qual) (f := f0) (cdv := cdv) (k := 2) (E := E) S_is_ascending
  have hO := def_own (G := G) (N := N_is_ascending) (qual := qual) (scope := defScope s_is_ascending) (f := f0) (cdv := cdv) (k := 2) (E := E)
  have hC := hC 2 E
  exact sss_one (ss_ret (se_all (N' := ["k", "row"]) (capt := [none, some 0]) (j := 1) hG (by decide) hC (gOk_by (by decide +kernel)) rfl (H.free _ rfl) (si_rng2 hG rfl (H.free _ rfl) rfl rfl (sa_cons rfl (se_int) (sa_cons rfl (se_callB hG (c_len hG) cas_len rfl (H.free _ rfl) (by decide +kernel) rfl rfl (sa_cons rfl (se_var hG (i := 0) rfl rfl (by decide) (by decide)) (sa_nil)) (by decide) (by decide)) (sa_nil)))) rfl (sgn_name (i := 0) rfl rfl) (by decide) (se_cmp (o_lt (gen_fm (j := 1) (N' := ["k", "row"]) hG (by decide +kernel))) ops_ltD (se_ix (gen_fm (j := 1) (N' := ["k", "row"]) hG (by decide +kernel)) rfl (se_var (gen_fm (j := 1) (N' := ["k", "row"]) hG (by decide +kernel)) (i := 1) rfl rfl (by decide) (by decide)) (se_op (o_sub (gen_fm (j := 1) (N' := ["k", "row"]) hG (by decide +kernel))) ops_subD (se_var (gen_fm (j := 1) (N' := ["k", "row"]) hG (by decide +kernel)) (i := 0) rfl rfl (by decide) (by decide)) (se_int))) (se_ix (gen_fm (j := 1) (N' := ["k", "row"]) hG (by decide +kernel)) rfl (se_var (gen_fm (j := 1) (N' := ["k", "row"]) hG (by decide +kernel)) (i := 1) rfl rfl (by decide) (by decide)) (se_var (gen_fm (j := 1) (N' := ["k", "row"]) hG (by decide +kernel)) (i := 0) rfl rfl (by decide) (by decide))) (by with_unfolding_all rfl))))
def N_is_group : List Str := ["size", "row"]
def m_is_group (K : PySem.W.Frag) : Sl → LH → RS := sRet (eAnd (eFn 1 (F_is_ascending K) (aCons (eVar 1) (aNil))) (eAg true (iSrc (eVar 1)) (gNm 0) (eChain leD ltD (eK (.int 0)) (eVar 0) (eVar 1)) [none, some 0]))
def F_is_group (K : PySem.W.Frag) : Fn := fnD N_is_group (m_is_group K)
theorem S_is_group : FnScope N_is_group ["size", "row"] (defScope s_is_group) := ⟨rfl, rfl, rfl, by decide +kernel, rfl, by decide +kernel, by decide +kernel⟩
theorem b_is_group {G : Pr} {T : Tb} {qual : Str} {f0 : Addr} {cdv : Value} {E : XK} (H : HyP G) (hA : AOk G.K (cf G.K)) (ok_is_ascending : FG G T 3 (He.ga G.K "is_ascending") 1 (F_is_ascending G.K)) {cd P0 : Addr} (hC : ∀ k E, CdOk (DefF G N_is_group qual (defScope s_is_group) f0 cdv k E) G T cd P0) : SSs (DefF G N_is_group qual (defScope s_is_group) f0 cdv 3 E) T (WD E) (defBody s_is_group) (m_is_group G.K) := by
  have hG := def_fm (G := G) (qual := qual) (f := f0) (cdv := cdv) (k := 3) (E := E) S_is_group
  have hO := def_own (G := G) (N := N_is_group) (qual := qual) (scope := defScope s_is_group) (f := f0) (cdv := cdv) (k := 3) (E := E)
  have hC := hC 3 E
  exact sss_one (ss_ret (se_and (se_fn hG ok_is_ascending (by decide) rfl (H.glo _ rfl).1 (H.glo _ rfl).2 rfl rfl (sa_cons rfl (se_var hG (i := 1) rfl rfl (by decide) (by decide)) (sa_nil)) (by decide)) (se_one (se_all (N' := ["house", "size"]) (capt := [none, some 0]) (j := 1) hG (by decide) hC (gOk_by (by decide +kernel)) rfl (H.free _ rfl) (si_seq hG (se_var hG (i := 1) rfl rfl (by decide) (by decide))) rfl (sgn_name (i := 0) rfl rfl) (by decide) (se_chain (o_le (gen_fm (j := 1) (N' := ["house", "size"]) hG (by decide +kernel))) ops_leD (o_lt (gen_fm (j := 1) (N' := ["house", "size"]) hG (by decide +kernel))) ops_ltD (se_int) (se_var (gen_fm (j := 1) (N' := ["house", "size"]) hG (by decide +kernel)) (i := 0) rfl rfl (by decide) (by decide)) (se_var (gen_fm (j := 1) (N' := ["house", "size"]) hG (by decide +kernel)) (i := 1) rfl rfl (by decide) (by decide)) (by with_unfolding_all rfl))))))
def N_Table_init : List Str := ["self", "heard"]
def m_Table_init (K : PySem.W.Frag) : Sl → LH → RS := sFldS (cf K) "heard" (eVar 0) (eVar 1)
def F_Table_init (K : PySem.W.Frag) : Fn := fnD N_Table_init (m_Table_init K)
theorem S_Table_init : FnScope N_Table_init ["self", "heard"] (defScope s_Table_init__) := ⟨rfl, rfl, rfl, by decide +kernel, rfl, by decide +kernel, by decide +kernel⟩
theorem b_Table_init {G : Pr} {T : Tb} {qual : Str} {f0 : Addr} {cdv : Value} {E : XK} (H : HyP G) (hA : AOk G.K (cf G.K))  : SSs (DefF G N_Table_init qual (defScope s_Table_init__) f0 cdv 1 E) T (WD E) (defBody s_Table_init__) (m_Table_init G.K) := by
  have hG := def_fm (G := G) (qual := qual) (f := f0) (cdv := cdv) (k := 1) (E := E) S_Table_init
  have hO := def_own (G := G) (N := N_Table_init) (qual := qual) (scope := defScope s_Table_init__) (f := f0) (cdv := cdv) (k := 1) (E := E)
  exact sss_one (ss_fld hG hA rfl (se_var hG (i := 0) rfl rfl (by decide) (by decide)) (se_var hG (i := 1) rfl rfl (by decide) (by decide)))
def N_RowsTable_init : List Str := ["self", "heard", "bits"]
def m_RowsTable_init (K : PySem.W.Frag) : Sl → LH → RS := sFldS (cf K) "bits" (eVar 0) (eVar 2)
def a_RowsTable_init (K : PySem.W.Frag) : Sl → LH → DI.R (List D) := aCons (eVar 1) (aNil)
def F_RowsTable_init (K : PySem.W.Frag) : Fn := fnS (He.ga K "RowsTable") N_RowsTable_init (F_Table_init K) 2 (a_RowsTable_init K) (m_RowsTable_init K)
theorem S_RowsTable_init : SupX.SScope N_RowsTable_init ["self", "heard", "bits"] (defScope s_RowsTable_init__) := ⟨rfl, rfl, rfl, by decide +kernel, rfl, by decide +kernel, by decide +kernel, by decide +kernel, rfl, rfl⟩
theorem ok_RowsTable_init {G : Pr} {T : Tb} {f f2 cda cc : Addr} {fd : FuncData} (H : HyP G) (hA : AOk G.K (cf G.K)) (TT : SupX.SupT G.prog G.K G.mg (He.ga G.K "RowsTable") cc cda f "RowsTable.__init__" (defArgs s_RowsTable_init__) (defBody s_RowsTable_init__) (defScope s_RowsTable_init__) fd)
    (hm : PySem.W.ks_superIn G.K (He.ga G.K "RowsTable") (He.ga G.K "RowsTable") "__init__" = some (some (.ref f2))) (ht : PySem.W.typeIn G.K (.ref f2) = some (.type "function")) (hfi : PySem.W.fnIn G.K f2 = true) (F2 : FG G T 2 f2 2 (F_Table_init G.K)) : FG G T 3 f 3 (F_RowsTable_init G.K) := by
  have hG := sup_fm (G := G) (qual := "RowsTable.__init__") (f := f) (cda := cda) (cc := cc) (k := 2) S_RowsTable_init
  have hO := sup_own (G := G) (N := N_RowsTable_init) (qual := "RowsTable.__init__") (scope := defScope s_RowsTable_init__) (f := f) (cda := cda) (cc := cc) (k := 2)
  exact fok_sup (k := 2) S_RowsTable_init rfl (by decide +kernel) rfl TT hm ht hfi F2 (by decide) (fun _ _ _ _ _ _ us hl => match us, hl with | [_, _, _], _ => rfl) (sa_cons rfl (se_var hG (i := 1) rfl rfl (by decide) (by decide)) (sa_nil)) (sss_one (ss_fld hG hA rfl (se_var hG (i := 0) rfl rfl (by decide) (by decide)) (se_var hG (i := 2) rfl rfl (by decide) (by decide)))) (fun _ => rfl) (fun _ => rfl) (fun _ => rfl) (fun _ => rfl)
def N_rows_table : List Str := ["heard", "bits", "size"]
def m_rows_table (K : PySem.W.Frag) : Sl → LH → RS := sSeq (sIf (bOr (bVal (eOp gtD (eCall lenD (aCons (eVar 0) (aNil))) (eK (.int 4)))) (bNot (bTru (eFn 2 (F_is_group K) (aCons (eVar 2) (aCons (eVar 0) (aNil))))))) (sBad) (sNx)) (sSeq (sIf (bOr (bVal (eOp neD (eCall lenD (aCons (eVar 1) (aNil))) (eOp shlD (eK (.int 1)) (eCall lenD (aCons (eVar 0) (aNil)))))) (bNot (bTru (eAg true (iSrc (eVar 1)) (gNm 0) (eOp (inD false) (eVar 0) (eTup (aCons (eK (.int 0)) (aCons (eK (.int 1)) (aNil))))) [none])))) (sBad) (sNx)) (sRet (eMk (He.ga K "RowsTable") 3 (F_RowsTable_init K) (aCons (eVar 0) (aCons (eVar 1) (aNil))))))
def F_rows_table (K : PySem.W.Frag) : Fn := fnD N_rows_table (m_rows_table K)
theorem S_rows_table : FnScope N_rows_table ["heard", "bits", "size"] (defScope s_rows_table) := ⟨rfl, rfl, rfl, by decide +kernel, rfl, by decide +kernel, by decide +kernel⟩
theorem b_rows_table {G : Pr} {T : Tb} {qual : Str} {f0 : Addr} {cdv : Value} {E : XK} {fRowsTable : Addr} (H : HyP G) (hA : AOk G.K (cf G.K)) (Mk_RowsTable : Mk G.K (He.ga G.K "RowsTable") fRowsTable) (ok_RowsTable_init : FG G T 3 fRowsTable 3 (F_RowsTable_init G.K)) (ok_is_group : FG G T 4 (He.ga G.K "is_group") 2 (F_is_group G.K)) {cd P0 : Addr} (hC : ∀ k E, CdOk (DefF G N_rows_table qual (defScope s_rows_table) f0 cdv k E) G T cd P0) : SSs (DefF G N_rows_table qual (defScope s_rows_table) f0 cdv 4 E) T (WD E) (defBody s_rows_table) (m_rows_table G.K) := by
  have hG := def_fm (G := G) (qual := qual) (f := f0) (cdv := cdv) (k := 4) (E := E) S_rows_table
  have hO := def_own (G := G) (N := N_rows_table) (qual := qual) (scope := defScope s_rows_table) (f := f0) (cdv := cdv) (k := 4) (E := E)
  have hC := hC 4 E
  exact sss_cons (ss_if (sb_sw (sw_or (sb_cmp (o_gt hG) ops_gtD (se_callB hG (c_len hG) cas_len rfl (H.free _ rfl) (by decide +kernel) rfl rfl (sa_cons rfl (se_var hG (i := 0) rfl rfl (by decide) (by decide)) (sa_nil)) (by decide) (by decide)) (se_gi hG rfl (H.int _ _ rfl) (by decide)) (by with_unfolding_all rfl)) (sw_or1 (sb_not (sb_tru (fun _ _ => rfl) hG (se_fn hG ok_is_group (by decide) rfl (H.glo _ rfl).1 (H.glo _ rfl).2 rfl rfl (sa_cons rfl (se_var hG (i := 2) rfl rfl (by decide) (by decide)) (sa_cons rfl (se_var hG (i := 0) rfl rfl (by decide) (by decide)) (sa_nil))) (by decide))))))) (sss_bad) (sss_nil)) (sss_cons (ss_if (sb_sw (sw_or (sb_cmp (o_ne hG) ops_neD (se_callB hG (c_len hG) cas_len rfl (H.free _ rfl) (by decide +kernel) rfl rfl (sa_cons rfl (se_var hG (i := 1) rfl rfl (by decide) (by decide)) (sa_nil)) (by decide) (by decide)) (se_op (o_shl hG) ops_shlD (se_int) (se_callB hG (c_len hG) cas_len rfl (H.free _ rfl) (by decide +kernel) rfl rfl (sa_cons rfl (se_var hG (i := 0) rfl rfl (by decide) (by decide)) (sa_nil)) (by decide) (by decide))) (by with_unfolding_all rfl)) (sw_or1 (sb_not (sb_tru (fun _ _ => rfl) hG (se_all (N' := ["bit"]) (capt := [none]) (j := 1) hG (by decide) hC (gOk_by (by decide +kernel)) rfl (H.free _ rfl) (si_seq hG (se_var hG (i := 1) rfl rfl (by decide) (by decide))) rfl (sgn_name (i := 0) rfl rfl) (by decide) (se_cmp (o_in (gen_fm (j := 1) (N' := ["bit"]) hG (by decide +kernel)) (by decide)) ops_inA (se_var (gen_fm (j := 1) (N' := ["bit"]) hG (by decide +kernel)) (i := 0) rfl rfl (by decide) (by decide)) (se_tup (sa_cons rfl (se_int) (sa_cons rfl (se_int) (sa_nil)))) (by with_unfolding_all rfl)))))))) (sss_bad) (sss_nil)) (sss_one (ss_ret (se_mk hG Mk_RowsTable ok_RowsTable_init (by decide) rfl (H.glo _ rfl).1 rfl rfl (sa_cons rfl (se_var hG (i := 0) rfl rfl (by decide) (by decide)) (sa_cons rfl (se_var hG (i := 1) rfl rfl (by decide) (by decide)) (sa_nil))) (by decide)))))
def N_is_term : List Str := ["heard", "term"]
def m_is_term (K : PySem.W.Frag) : Sl → LH → RS := sRet (eAnd (eFn 1 (F_is_ascending K) (aCons (eVar 1) (aNil))) (eAg true (iSrc (eVar 1)) (gNm 0) (eOp (inD false) (eVar 0) (eVar 1)) [none, some 0]))
def F_is_term (K : PySem.W.Frag) : Fn := fnD N_is_term (m_is_term K)
theorem S_is_term : FnScope N_is_term ["heard", "term"] (defScope s_is_term) := ⟨rfl, rfl, rfl, by decide +kernel, rfl, by decide +kernel, by decide +kernel⟩
theorem b_is_term {G : Pr} {T : Tb} {qual : Str} {f0 : Addr} {cdv : Value} {E : XK} (H : HyP G) (hA : AOk G.K (cf G.K)) (ok_is_ascending : FG G T 3 (He.ga G.K "is_ascending") 1 (F_is_ascending G.K)) {cd P0 : Addr} (hC : ∀ k E, CdOk (DefF G N_is_term qual (defScope s_is_term) f0 cdv k E) G T cd P0) : SSs (DefF G N_is_term qual (defScope s_is_term) f0 cdv 3 E) T (WD E) (defBody s_is_term) (m_is_term G.K) := by
  have hG := def_fm (G := G) (qual := qual) (f := f0) (cdv := cdv) (k := 3) (E := E) S_is_term
  have hO := def_own (G := G) (N := N_is_term) (qual := qual) (scope := defScope s_is_term) (f := f0) (cdv := cdv) (k := 3) (E := E)
  have hC := hC 3 E
  exact sss_one (ss_ret (se_and (se_fn hG ok_is_ascending (by decide) rfl (H.glo _ rfl).1 (H.glo _ rfl).2 rfl rfl (sa_cons rfl (se_var hG (i := 1) rfl rfl (by decide) (by decide)) (sa_nil)) (by decide)) (se_one (se_all (N' := ["house", "heard"]) (capt := [none, some 0]) (j := 1) hG (by decide) hC (gOk_by (by decide +kernel)) rfl (H.free _ rfl) (si_seq hG (se_var hG (i := 1) rfl rfl (by decide) (by decide))) rfl (sgn_name (i := 0) rfl rfl) (by decide) (se_cmp (o_in (gen_fm (j := 1) (N' := ["house", "heard"]) hG (by decide +kernel)) (by decide)) ops_inA (se_var (gen_fm (j := 1) (N' := ["house", "heard"]) hG (by decide +kernel)) (i := 0) rfl rfl (by decide) (by decide)) (se_var (gen_fm (j := 1) (N' := ["house", "heard"]) hG (by decide +kernel)) (i := 1) rfl rfl (by decide) (by decide)) (by with_unfolding_all rfl))))))
def N_contains : List Str := ["term", "other"]
def m_contains (K : PySem.W.Frag) : Sl → LH → RS := sRet (eAg true (iSrc (eVar 1)) (gNm 0) (eOp (inD false) (eVar 0) (eVar 1)) [none, some 0])
def F_contains (K : PySem.W.Frag) : Fn := fnD N_contains (m_contains K)
theorem S_contains : FnScope N_contains ["term", "other"] (defScope s_contains) := ⟨rfl, rfl, rfl, by decide +kernel, rfl, by decide +kernel, by decide +kernel⟩
theorem b_contains {G : Pr} {T : Tb} {qual : Str} {f0 : Addr} {cdv : Value} {E : XK} (H : HyP G) (hA : AOk G.K (cf G.K)) {cd P0 : Addr} (hC : ∀ k E, CdOk (DefF G N_contains qual (defScope s_contains) f0 cdv k E) G T cd P0) : SSs (DefF G N_contains qual (defScope s_contains) f0 cdv 2 E) T (WD E) (defBody s_contains) (m_contains G.K) := by
  have hG := def_fm (G := G) (qual := qual) (f := f0) (cdv := cdv) (k := 2) (E := E) S_contains
  have hO := def_own (G := G) (N := N_contains) (qual := qual) (scope := defScope s_contains) (f := f0) (cdv := cdv) (k := 2) (E := E)
  have hC := hC 2 E
  exact sss_one (ss_ret (se_all (N' := ["house", "term"]) (capt := [none, some 0]) (j := 1) hG (by decide) hC (gOk_by (by decide +kernel)) rfl (H.free _ rfl) (si_seq hG (se_var hG (i := 1) rfl rfl (by decide) (by decide))) rfl (sgn_name (i := 0) rfl rfl) (by decide) (se_cmp (o_in (gen_fm (j := 1) (N' := ["house", "term"]) hG (by decide +kernel)) (by decide)) ops_inA (se_var (gen_fm (j := 1) (N' := ["house", "term"]) hG (by decide +kernel)) (i := 0) rfl rfl (by decide) (by decide)) (se_var (gen_fm (j := 1) (N' := ["house", "term"]) hG (by decide +kernel)) (i := 1) rfl rfl (by decide) (by decide)) (by with_unfolding_all rfl))))
def N_stands_apart : List Str := ["term", "terms"]
def m_stands_apart (K : PySem.W.Frag) : Sl → LH → RS := sRet (eNot (eAg false (iSrc (eVar 1)) (gNm 0) (eAnd (eOp neD (eVar 0) (eVar 1)) (eFn 2 (F_contains K) (aCons (eVar 1) (aCons (eVar 0) (aNil))))) [none, some 0]))
def F_stands_apart (K : PySem.W.Frag) : Fn := fnD N_stands_apart (m_stands_apart K)
theorem S_stands_apart : FnScope N_stands_apart ["term", "terms"] (defScope s_stands_apart) := ⟨rfl, rfl, rfl, by decide +kernel, rfl, by decide +kernel, by decide +kernel⟩
theorem b_stands_apart {G : Pr} {T : Tb} {qual : Str} {f0 : Addr} {cdv : Value} {E : XK} (H : HyP G) (hA : AOk G.K (cf G.K)) (ok_contains : FG G T 3 (He.ga G.K "contains") 2 (F_contains G.K)) {cd P0 : Addr} (hC : ∀ k E, CdOk (DefF G N_stands_apart qual (defScope s_stands_apart) f0 cdv k E) G T cd P0) : SSs (DefF G N_stands_apart qual (defScope s_stands_apart) f0 cdv 4 E) T (WD E) (defBody s_stands_apart) (m_stands_apart G.K) := by
  have hG := def_fm (G := G) (qual := qual) (f := f0) (cdv := cdv) (k := 4) (E := E) S_stands_apart
  have hO := def_own (G := G) (N := N_stands_apart) (qual := qual) (scope := defScope s_stands_apart) (f := f0) (cdv := cdv) (k := 4) (E := E)
  have hC := hC 4 E
  exact sss_one (ss_ret (se_not (se_any (N' := ["other", "term"]) (capt := [none, some 0]) (j := 3) hG (by decide) hC (gOk_by (by decide +kernel)) rfl (H.free _ rfl) (si_seq hG (se_var hG (i := 1) rfl rfl (by decide) (by decide))) rfl (sgn_name (i := 0) rfl rfl) (by decide) (se_and (se_cmp (o_ne (gen_fm (j := 3) (N' := ["other", "term"]) hG (by decide +kernel))) ops_neD (se_var (gen_fm (j := 3) (N' := ["other", "term"]) hG (by decide +kernel)) (i := 0) rfl rfl (by decide) (by decide)) (se_var (gen_fm (j := 3) (N' := ["other", "term"]) hG (by decide +kernel)) (i := 1) rfl rfl (by decide) (by decide)) (by with_unfolding_all rfl)) (se_one (se_fn (gen_fm (j := 3) (N' := ["other", "term"]) hG (by decide +kernel)) ok_contains (by decide) rfl (H.glo _ rfl).1 (H.glo _ rfl).2 rfl rfl (sa_cons rfl (se_var (gen_fm (j := 3) (N' := ["other", "term"]) hG (by decide +kernel)) (i := 1) rfl rfl (by decide) (by decide)) (sa_cons rfl (se_var (gen_fm (j := 3) (N' := ["other", "term"]) hG (by decide +kernel)) (i := 0) rfl rfl (by decide) (by decide)) (sa_nil))) (by decide)))))))
def N_are_terms : List Str := ["heard", "terms"]
def m_are_terms (K : PySem.W.Frag) : Sl → LH → RS := sSeq (sIf (bNot (bTru (eAg true (iSrc (eVar 1)) (gNm 0) (eFn 2 (F_is_term K) (aCons (eVar 1) (aCons (eVar 0) (aNil)))) [none, some 0]))) (sRet (eK (.bl false))) (sNx)) (sRet (eAnd (eFn 1 (F_is_ascending K) (aCons (eVar 1) (aNil))) (eAg true (iSrc (eVar 1)) (gNm 0) (eFn 2 (F_stands_apart K) (aCons (eVar 0) (aCons (eVar 1) (aNil)))) [none, some 1])))
def F_are_terms (K : PySem.W.Frag) : Fn := fnD N_are_terms (m_are_terms K)
theorem S_are_terms : FnScope N_are_terms ["heard", "terms"] (defScope s_are_terms) := ⟨rfl, rfl, rfl, by decide +kernel, rfl, by decide +kernel, by decide +kernel⟩
theorem b_are_terms {G : Pr} {T : Tb} {qual : Str} {f0 : Addr} {cdv : Value} {E : XK} (H : HyP G) (hA : AOk G.K (cf G.K)) (ok_is_ascending : FG G T 3 (He.ga G.K "is_ascending") 1 (F_is_ascending G.K)) (ok_is_term : FG G T 4 (He.ga G.K "is_term") 2 (F_is_term G.K)) (ok_stands_apart : FG G T 5 (He.ga G.K "stands_apart") 2 (F_stands_apart G.K)) {cd P0 : Addr} (hC : ∀ k E, CdOk (DefF G N_are_terms qual (defScope s_are_terms) f0 cdv k E) G T cd P0) : SSs (DefF G N_are_terms qual (defScope s_are_terms) f0 cdv 6 E) T (WD E) (defBody s_are_terms) (m_are_terms G.K) := by
  have hG := def_fm (G := G) (qual := qual) (f := f0) (cdv := cdv) (k := 6) (E := E) S_are_terms
  have hO := def_own (G := G) (N := N_are_terms) (qual := qual) (scope := defScope s_are_terms) (f := f0) (cdv := cdv) (k := 6) (E := E)
  have hC := hC 6 E
  exact sss_cons (ss_if (sb_not (sb_tru (fun _ _ => rfl) hG (se_all (N' := ["term", "heard"]) (capt := [none, some 0]) (j := 4) hG (by decide) hC (gOk_by (by decide +kernel)) rfl (H.free _ rfl) (si_seq hG (se_var hG (i := 1) rfl rfl (by decide) (by decide))) rfl (sgn_name (i := 0) rfl rfl) (by decide) (se_fn (gen_fm (j := 4) (N' := ["term", "heard"]) hG (by decide +kernel)) ok_is_term (by decide) rfl (H.glo _ rfl).1 (H.glo _ rfl).2 rfl rfl (sa_cons rfl (se_var (gen_fm (j := 4) (N' := ["term", "heard"]) hG (by decide +kernel)) (i := 1) rfl rfl (by decide) (by decide)) (sa_cons rfl (se_var (gen_fm (j := 4) (N' := ["term", "heard"]) hG (by decide +kernel)) (i := 0) rfl rfl (by decide) (by decide)) (sa_nil))) (by decide))))) (sss_one (ss_ret (se_bl))) (sss_nil)) (sss_one (ss_ret (se_and (se_fn hG ok_is_ascending (by decide) rfl (H.glo _ rfl).1 (H.glo _ rfl).2 rfl rfl (sa_cons rfl (se_var hG (i := 1) rfl rfl (by decide) (by decide)) (sa_nil)) (by decide)) (se_one (se_all (N' := ["term", "terms"]) (capt := [none, some 1]) (j := 5) hG (by decide) hC (gOk_by (by decide +kernel)) rfl (H.free _ rfl) (si_seq hG (se_var hG (i := 1) rfl rfl (by decide) (by decide))) rfl (sgn_name (i := 0) rfl rfl) (by decide) (se_fn (gen_fm (j := 5) (N' := ["term", "terms"]) hG (by decide +kernel)) ok_stands_apart (by decide) rfl (H.glo _ rfl).1 (H.glo _ rfl).2 rfl rfl (sa_cons rfl (se_var (gen_fm (j := 5) (N' := ["term", "terms"]) hG (by decide +kernel)) (i := 0) rfl rfl (by decide) (by decide)) (sa_cons rfl (se_var (gen_fm (j := 5) (N' := ["term", "terms"]) hG (by decide +kernel)) (i := 1) rfl rfl (by decide) (by decide)) (sa_nil))) (by decide)))))))
def N_TermsTable_init : List Str := ["self", "hearings", "terms", "hearing"]
def m_TermsTable_init (K : PySem.W.Frag) : Sl → LH → RS := sSeq (sFldS (cf K) "hearings" (eVar 0) (eVar 1)) (sFldS (cf K) "terms" (eVar 0) (eVar 2))
def a_TermsTable_init (K : PySem.W.Frag) : Sl → LH → DI.R (List D) := aCons (eCall tupleD (aCons (eLc (iSrc (eVar 1)) (gNm 3) (bYes) (eOp ixD (eVar 3) (eK (.int 0))) [3]) (aNil))) (aNil)
def F_TermsTable_init (K : PySem.W.Frag) : Fn := fnS (He.ga K "TermsTable") N_TermsTable_init (F_Table_init K) 2 (a_TermsTable_init K) (m_TermsTable_init K)
theorem S_TermsTable_init : SupX.SScope N_TermsTable_init ["self", "hearings", "terms"] (defScope s_TermsTable_init__) := ⟨rfl, rfl, rfl, by decide +kernel, rfl, by decide +kernel, by decide +kernel, by decide +kernel, rfl, rfl⟩
theorem ok_TermsTable_init {G : Pr} {T : Tb} {f f2 cda cc : Addr} {fd : FuncData} (H : HyP G) (hA : AOk G.K (cf G.K)) (TT : SupX.SupT G.prog G.K G.mg (He.ga G.K "TermsTable") cc cda f "TermsTable.__init__" (defArgs s_TermsTable_init__) (defBody s_TermsTable_init__) (defScope s_TermsTable_init__) fd)
    (hm : PySem.W.ks_superIn G.K (He.ga G.K "TermsTable") (He.ga G.K "TermsTable") "__init__" = some (some (.ref f2))) (ht : PySem.W.typeIn G.K (.ref f2) = some (.type "function")) (hfi : PySem.W.fnIn G.K f2 = true) (F2 : FG G T 2 f2 2 (F_Table_init G.K)) : FG G T 3 f 3 (F_TermsTable_init G.K) := by
  have hG := sup_fm (G := G) (qual := "TermsTable.__init__") (f := f) (cda := cda) (cc := cc) (k := 2) S_TermsTable_init
  have hO := sup_own (G := G) (N := N_TermsTable_init) (qual := "TermsTable.__init__") (scope := defScope s_TermsTable_init__) (f := f) (cda := cda) (cc := cc) (k := 2)
  exact fok_sup (k := 2) S_TermsTable_init rfl (by decide +kernel) rfl TT hm ht hfi F2 (by decide) (fun _ _ _ _ _ _ us hl => match us, hl with | [_, _, _], _ => rfl) (sa_cons rfl (se_callT hG (c_tuple hG) cas_tuple rfl (H.free _ rfl) (by decide +kernel) rfl rfl (sa_cons rfl (se_lc (own := [("hearing", 3)]) hG (blkOk_by (by decide +kernel)) (si_seq hG (se_var hG (i := 1) rfl rfl (by decide) (by decide))) rfl (sg_name (blk_fm hG) (i := 3) rfl rfl) (by decide) (sf_nil) (se_ix (blk_fm hG) rfl (se_var (blk_fm hG) (i := 3) rfl rfl (by decide) (by decide)) (se_int))) (sa_nil)) (by decide) (by decide)) (sa_nil)) (sss_cons (ss_fld hG hA rfl (se_var hG (i := 0) rfl rfl (by decide) (by decide)) (se_var hG (i := 1) rfl rfl (by decide) (by decide))) (sss_one (ss_fld hG hA rfl (se_var hG (i := 0) rfl rfl (by decide) (by decide)) (se_var hG (i := 2) rfl rfl (by decide) (by decide))))) (fun _ => rfl) (fun _ => rfl) (fun _ => rfl) (fun _ => rfl)
def N_terms_table : List Str := ["hearings", "terms", "size", "heard", "house", "sign"]
def m_terms_table (K : PySem.W.Frag) : Sl → LH → RS := sSeq (sAsg (eLc (iSrc (eVar 0)) (gTp 2 (gCon (gNm 4) (gCon (gNm 5) (gNil')))) (bYes) (eVar 4) [4, 5]) (gNm 3)) (sSeq (sIf (bOr (bVal (eOp gtD (eCall lenD (aCons (eVar 3) (aNil))) (eK (.int 4)))) (bNot (bTru (eFn 2 (F_is_group K) (aCons (eVar 2) (aCons (eVar 3) (aNil))))))) (sBad) (sNx)) (sSeq (sIf (bNot (bTru (eAg true (iSrc (eVar 0)) (gTp 2 (gCon (gNm 0) (gCon (gNm 1) (gNil')))) (eOp (inD false) (eVar 1) (eTup (aCons (eK (.int 1)) (aCons (eUn negD (eK (.int 1))) (aNil))))) [none, none]))) (sBad) (sNx)) (sSeq (sIf (bNot (bTru (eFn 2 (F_are_terms K) (aCons (eVar 3) (aCons (eVar 1) (aNil)))))) (sBad) (sNx)) (sRet (eMk (He.ga K "TermsTable") 3 (F_TermsTable_init K) (aCons (eVar 0) (aCons (eVar 1) (aNil))))))))
def F_terms_table (K : PySem.W.Frag) : Fn := fnD N_terms_table (m_terms_table K)
theorem S_terms_table : FnScope N_terms_table ["hearings", "terms", "size"] (defScope s_terms_table) := ⟨rfl, rfl, rfl, by decide +kernel, rfl, by decide +kernel, by decide +kernel⟩
theorem b_terms_table {G : Pr} {T : Tb} {qual : Str} {f0 : Addr} {cdv : Value} {E : XK} {fTermsTable : Addr} (H : HyP G) (hA : AOk G.K (cf G.K)) (Mk_TermsTable : Mk G.K (He.ga G.K "TermsTable") fTermsTable) (ok_TermsTable_init : FG G T 3 fTermsTable 3 (F_TermsTable_init G.K)) (ok_are_terms : FG G T 7 (He.ga G.K "are_terms") 2 (F_are_terms G.K)) (ok_is_group : FG G T 4 (He.ga G.K "is_group") 2 (F_is_group G.K)) {cd P0 : Addr} (hC : ∀ k E, CdOk (DefF G N_terms_table qual (defScope s_terms_table) f0 cdv k E) G T cd P0) : SSs (DefF G N_terms_table qual (defScope s_terms_table) f0 cdv 7 E) T (WD E) (defBody s_terms_table) (m_terms_table G.K) := by
  have hG := def_fm (G := G) (qual := qual) (f := f0) (cdv := cdv) (k := 7) (E := E) S_terms_table
  have hO := def_own (G := G) (N := N_terms_table) (qual := qual) (scope := defScope s_terms_table) (f := f0) (cdv := cdv) (k := 7) (E := E)
  have hC := hC 7 E
  exact sss_cons (ss_lc (own := [("house", 4), ("sign", 5)]) (i := 3) hG (blkOk_by (by decide +kernel)) (si_seq hG (se_var hG (i := 0) rfl rfl (by decide) (by decide))) rfl rfl rfl rfl rfl (by decide +kernel) (sg_tup (blk_fm hG) rfl (sgs_cons rfl (sg_name (blk_fm hG) (i := 4) rfl rfl) (sgs_cons rfl (sg_name (blk_fm hG) (i := 5) rfl rfl) (sgs_nil)))) (by decide) (sf_nil) (se_var (blk_fm hG) (i := 4) rfl rfl (by decide) (by decide))) (sss_cons (ss_if (sb_sw (sw_or (sb_cmp (o_gt hG) ops_gtD (se_callB hG (c_len hG) cas_len rfl (H.free _ rfl) (by decide +kernel) rfl rfl (sa_cons rfl (se_var hG (i := 3) rfl rfl (by decide) (by decide)) (sa_nil)) (by decide) (by decide)) (se_gi hG rfl (H.int _ _ rfl) (by decide)) (by with_unfolding_all rfl)) (sw_or1 (sb_not (sb_tru (fun _ _ => rfl) hG (se_fn hG ok_is_group (by decide) rfl (H.glo _ rfl).1 (H.glo _ rfl).2 rfl rfl (sa_cons rfl (se_var hG (i := 2) rfl rfl (by decide) (by decide)) (sa_cons rfl (se_var hG (i := 3) rfl rfl (by decide) (by decide)) (sa_nil))) (by decide))))))) (sss_bad) (sss_nil)) (sss_cons (ss_if (sb_not (sb_tru (fun _ _ => rfl) hG (se_all (N' := ["house", "sign"]) (capt := [none, none]) (j := 1) hG (by decide) hC (gOk_by (by decide +kernel)) rfl (H.free _ rfl) (si_seq hG (se_var hG (i := 0) rfl rfl (by decide) (by decide))) rfl (sgn_tup rfl (sgns_cons rfl (sgn_name (i := 0) rfl rfl) (sgns_cons rfl (sgn_name (i := 1) rfl rfl) (sgns_nil)))) (by decide) (se_cmp (o_in (gen_fm (j := 1) (N' := ["house", "sign"]) hG (by decide +kernel)) (by decide)) ops_inA (se_var (gen_fm (j := 1) (N' := ["house", "sign"]) hG (by decide +kernel)) (i := 1) rfl rfl (by decide) (by decide)) (se_tup (sa_cons rfl (se_int) (sa_cons rfl (se_un (o_neg (gen_fm (j := 1) (N' := ["house", "sign"]) hG (by decide +kernel))) uns_negD (se_int)) (sa_nil)))) (by with_unfolding_all rfl))))) (sss_bad) (sss_nil)) (sss_cons (ss_if (sb_not (sb_tru (fun _ _ => rfl) hG (se_fn hG ok_are_terms (by decide) rfl (H.glo _ rfl).1 (H.glo _ rfl).2 rfl rfl (sa_cons rfl (se_var hG (i := 3) rfl rfl (by decide) (by decide)) (sa_cons rfl (se_var hG (i := 1) rfl rfl (by decide) (by decide)) (sa_nil))) (by decide)))) (sss_bad) (sss_nil)) (sss_one (ss_ret (se_mk hG Mk_TermsTable ok_TermsTable_init (by decide) rfl (H.glo _ rfl).1 rfl rfl (sa_cons rfl (se_var hG (i := 0) rfl rfl (by decide) (by decide)) (sa_cons rfl (se_var hG (i := 1) rfl rfl (by decide) (by decide)) (sa_nil))) (by decide)))))))
def N_table_of : List Str := ["row", "size", "kind", "heard", "body", "hearings", "house", "sign", "term"]
def m_table_of (K : PySem.W.Frag) : Sl → LH → RS := sSeq (sAsg (eVar 0) (gTp 3 (gCon (gNm 2) (gCon (gNm 3) (gCon (gNm 4) (gNil')))))) (sSeq (sIf (bVal (eOp eqD (eVar 2) (eK (.str "rows")))) (sRet (eFn 3 (F_rows_table K) (aCons (eCall tupleD (aCons (eVar 3) (aNil))) (aCons (eCall tupleD (aCons (eVar 4) (aNil))) (aCons (eVar 1) (aNil)))))) (sNx)) (sSeq (sIf (bVal (eOp eqD (eVar 2) (eK (.str "terms")))) (sSeq (sAsg (eCall tupleD (aCons (eLc (iSrc (eVar 3)) (gTp 2 (gCon (gNm 6) (gCon (gNm 7) (gNil')))) (bYes) (eTup (aCons (eVar 6) (aCons (eVar 7) (aNil)))) [6, 7]) (aNil))) (gNm 5)) (sRet (eFn 3 (F_terms_table K) (aCons (eVar 5) (aCons (eCall tupleD (aCons (eLc (iSrc (eVar 4)) (gNm 8) (bYes) (eCall tupleD (aCons (eVar 8) (aNil))) [8]) (aNil))) (aCons (eVar 1) (aNil))))))) (sNx)) (sBad)))
def F_table_of (K : PySem.W.Frag) : Fn := fnD N_table_of (m_table_of K)
theorem S_table_of : FnScope N_table_of ["row", "size"] (defScope s_table_of) := ⟨rfl, rfl, rfl, by decide +kernel, rfl, by decide +kernel, by decide +kernel⟩
theorem b_table_of {G : Pr} {T : Tb} {qual : Str} {f0 : Addr} {cdv : Value} {E : XK} (H : HyP G) (hA : AOk G.K (cf G.K)) (ok_rows_table : FG G T 5 (He.ga G.K "rows_table") 3 (F_rows_table G.K)) (ok_terms_table : FG G T 8 (He.ga G.K "terms_table") 3 (F_terms_table G.K)) : SSs (DefF G N_table_of qual (defScope s_table_of) f0 cdv 8 E) T (WD E) (defBody s_table_of) (m_table_of G.K) := by
  have hG := def_fm (G := G) (qual := qual) (f := f0) (cdv := cdv) (k := 8) (E := E) S_table_of
  have hO := def_own (G := G) (N := N_table_of) (qual := qual) (scope := defScope s_table_of) (f := f0) (cdv := cdv) (k := 8) (E := E)
  exact sss_cons (ss_tup hG rfl (sgs_cons rfl (sg_name hG (i := 2) rfl rfl) (sgs_cons rfl (sg_name hG (i := 3) rfl rfl) (sgs_cons rfl (sg_name hG (i := 4) rfl rfl) (sgs_nil)))) (se_var hG (i := 0) rfl rfl (by decide) (by decide)) (fun _ _ => rfl) (fun _ _ => rfl)) (sss_cons (ss_if (sb_cmp (o_eq hG) ops_eqD (se_var hG (i := 2) rfl rfl (by decide) (by decide)) (se_str) (by with_unfolding_all rfl)) (sss_one (ss_ret (se_fn hG ok_rows_table (by decide) rfl (H.glo _ rfl).1 (H.glo _ rfl).2 rfl rfl (sa_cons rfl (se_callT hG (c_tuple hG) cas_tuple rfl (H.free _ rfl) (by decide +kernel) rfl rfl (sa_cons rfl (se_var hG (i := 3) rfl rfl (by decide) (by decide)) (sa_nil)) (by decide) (by decide)) (sa_cons rfl (se_callT hG (c_tuple hG) cas_tuple rfl (H.free _ rfl) (by decide +kernel) rfl rfl (sa_cons rfl (se_var hG (i := 4) rfl rfl (by decide) (by decide)) (sa_nil)) (by decide) (by decide)) (sa_cons rfl (se_var hG (i := 1) rfl rfl (by decide) (by decide)) (sa_nil)))) (by decide)))) (sss_nil)) (sss_cons (ss_if (sb_cmp (o_eq hG) ops_eqD (se_var hG (i := 2) rfl rfl (by decide) (by decide)) (se_str) (by with_unfolding_all rfl)) (sss_cons (ss_set (i := 5) hG rfl rfl rfl (se_callT hG (c_tuple hG) cas_tuple rfl (H.free _ rfl) (by decide +kernel) rfl rfl (sa_cons rfl (se_lc (own := [("house", 6), ("sign", 7)]) hG (blkOk_by (by decide +kernel)) (si_seq hG (se_var hG (i := 3) rfl rfl (by decide) (by decide))) rfl (sg_tup (blk_fm hG) rfl (sgs_cons rfl (sg_name (blk_fm hG) (i := 6) rfl rfl) (sgs_cons rfl (sg_name (blk_fm hG) (i := 7) rfl rfl) (sgs_nil)))) (by decide) (sf_nil) (se_tup (sa_cons rfl (se_var (blk_fm hG) (i := 6) rfl rfl (by decide) (by decide)) (sa_cons rfl (se_var (blk_fm hG) (i := 7) rfl rfl (by decide) (by decide)) (sa_nil))))) (sa_nil)) (by decide) (by decide))) (sss_one (ss_ret (se_fn hG ok_terms_table (by decide) rfl (H.glo _ rfl).1 (H.glo _ rfl).2 rfl rfl (sa_cons rfl (se_var hG (i := 5) rfl rfl (by decide) (by decide)) (sa_cons rfl (se_callT hG (c_tuple hG) cas_tuple rfl (H.free _ rfl) (by decide +kernel) rfl rfl (sa_cons rfl (se_lc (own := [("term", 8)]) hG (blkOk_by (by decide +kernel)) (si_seq hG (se_var hG (i := 4) rfl rfl (by decide) (by decide))) rfl (sg_name (blk_fm hG) (i := 8) rfl rfl) (by decide) (sf_nil) (se_callT (blk_fm hG) (c_tuple (blk_fm hG)) cas_tuple rfl (H.free _ rfl) (by decide +kernel) rfl rfl (sa_cons rfl (se_var (blk_fm hG) (i := 8) rfl rfl (by decide) (by decide)) (sa_nil)) (by decide) (by decide))) (sa_nil)) (by decide) (by decide)) (sa_cons rfl (se_var hG (i := 1) rfl rfl (by decide) (by decide)) (sa_nil)))) (by decide))))) (sss_nil)) (sss_bad)))
def N_tables_of_web : List Str := ["rows", "tables", "house", "row"]
def m_tables_of_web (K : PySem.W.Frag) : Sl → LH → RS := sSeq (sAsg (eLst (aNil)) (gNm 1)) (sSeq (sFor (iArg enumD (aCons (eVar 0) (aNil))) (gTp 2 (gCon (gNm 2) (gCon (gNm 3) (gNil')))) (sTry (sDrop (eBm isL appendD (eVar 1) (aCons (eFn 2 (F_table_of K) (aCons (eVar 3) (aCons (eCall lenD (aCons (eVar 0) (aNil))) (aNil)))) (aNil)))))) (sRet (eCall tupleD (aCons (eVar 1) (aNil)))))
def F_tables_of_web (K : PySem.W.Frag) : Fn := fnD N_tables_of_web (m_tables_of_web K)
theorem S_tables_of_web : FnScope N_tables_of_web ["rows"] (defScope s_tables_of_web) := ⟨rfl, rfl, rfl, by decide +kernel, rfl, by decide +kernel, by decide +kernel⟩
theorem b_tables_of_web {G : Pr} {T : Tb} {qual : Str} {f0 : Addr} {cdv : Value} {E : XK} (H : HyP G) (hA : AOk G.K (cf G.K)) (ok_table_of : FG G T 9 (He.ga G.K "table_of") 2 (F_table_of G.K)) : SSs (DefF G N_tables_of_web qual (defScope s_tables_of_web) f0 cdv 9 E) T (WD E) (defBody s_tables_of_web) (m_tables_of_web G.K) := by
  have hG := def_fm (G := G) (qual := qual) (f := f0) (cdv := cdv) (k := 9) (E := E) S_tables_of_web
  have hO := def_own (G := G) (N := N_tables_of_web) (qual := qual) (scope := defScope s_tables_of_web) (f := f0) (cdv := cdv) (k := 9) (E := E)
  exact sss_cons (ss_set (i := 1) hG rfl rfl rfl (se_lst (sa_nil))) (sss_cons (ss_for hG hO (si_enum hG rfl (H.free _ rfl) rfl (sa_cons rfl (se_var hG (i := 0) rfl rfl (by decide) (by decide)) (sa_nil))) rfl (sg_tup hG rfl (sgs_cons rfl (sg_name hG (i := 2) rfl rfl) (sgs_cons rfl (sg_name hG (i := 3) rfl rfl) (sgs_nil)))) (sss_one (ss_try (sss_one (ss_expr rfl (se_bm (nox_fm hG) F.plainAttrs_list F.slot_list_append F.type_list_append (fun _ _ => mt_append) mts_append (se_var (nox_fm hG) (i := 1) rfl rfl (by decide) (by decide)) rfl rfl (sa_cons rfl (se_fn (nox_fm hG) ok_table_of (by decide) rfl (H.glo _ rfl).1 (H.glo _ rfl).2 rfl rfl (sa_cons rfl (se_var (nox_fm hG) (i := 3) rfl rfl (by decide) (by decide)) (sa_cons rfl (se_callB (nox_fm hG) (c_len (nox_fm hG)) cas_len rfl (H.free _ rfl) (by decide +kernel) rfl rfl (sa_cons rfl (se_var (nox_fm hG) (i := 0) rfl rfl (by decide) (by decide)) (sa_nil)) (by decide) (by decide)) (sa_nil))) (by decide)) (sa_nil)) ⟨fun _ _ => rfl, fun _ _ => rfl⟩ rfl)))))) (sss_one (ss_ret (se_callT hG (c_tuple hG) cas_tuple rfl (H.free _ rfl) (by decide +kernel) rfl rfl (sa_cons rfl (se_var hG (i := 1) rfl rfl (by decide) (by decide)) (sa_nil)) (by decide) (by decide)))))
def N_Web_init : List Str := ["self", "rows"]
def m_Web_init (K : PySem.W.Frag) : Sl → LH → RS := sSeq (sIf (bNot (bTru (eFn 1 (F_is_size K) (aCons (eCall lenD (aCons (eVar 1) (aNil))) (aNil))))) (sBad) (sNx)) (sSeq (sFldS (cf K) "size" (eVar 0) (eCall lenD (aCons (eVar 1) (aNil)))) (sFldS (cf K) "tables" (eVar 0) (eFn 1 (F_tables_of_web K) (aCons (eVar 1) (aNil)))))
def F_Web_init (K : PySem.W.Frag) : Fn := fnD N_Web_init (m_Web_init K)
theorem S_Web_init : FnScope N_Web_init ["self", "rows"] (defScope s_Web_init__) := ⟨rfl, rfl, rfl, by decide +kernel, rfl, by decide +kernel, by decide +kernel⟩
theorem b_Web_init {G : Pr} {T : Tb} {qual : Str} {f0 : Addr} {cdv : Value} {E : XK} (H : HyP G) (hA : AOk G.K (cf G.K)) (ok_is_size : FG G T 2 (He.ga G.K "is_size") 1 (F_is_size G.K)) (ok_tables_of_web : FG G T 10 (He.ga G.K "tables_of_web") 1 (F_tables_of_web G.K)) : SSs (DefF G N_Web_init qual (defScope s_Web_init__) f0 cdv 10 E) T (WD E) (defBody s_Web_init__) (m_Web_init G.K) := by
  have hG := def_fm (G := G) (qual := qual) (f := f0) (cdv := cdv) (k := 10) (E := E) S_Web_init
  have hO := def_own (G := G) (N := N_Web_init) (qual := qual) (scope := defScope s_Web_init__) (f := f0) (cdv := cdv) (k := 10) (E := E)
  exact sss_cons (ss_if (sb_not (sb_tru (fun _ _ => rfl) hG (se_fn hG ok_is_size (by decide) rfl (H.glo _ rfl).1 (H.glo _ rfl).2 rfl rfl (sa_cons rfl (se_callB hG (c_len hG) cas_len rfl (H.free _ rfl) (by decide +kernel) rfl rfl (sa_cons rfl (se_var hG (i := 1) rfl rfl (by decide) (by decide)) (sa_nil)) (by decide) (by decide)) (sa_nil)) (by decide)))) (sss_bad) (sss_nil)) (sss_cons (ss_fld hG hA rfl (se_var hG (i := 0) rfl rfl (by decide) (by decide)) (se_callB hG (c_len hG) cas_len rfl (H.free _ rfl) (by decide +kernel) rfl rfl (sa_cons rfl (se_var hG (i := 1) rfl rfl (by decide) (by decide)) (sa_nil)) (by decide) (by decide))) (sss_one (ss_fld hG hA rfl (se_var hG (i := 0) rfl rfl (by decide) (by decide)) (se_fn hG ok_tables_of_web (by decide) rfl (H.glo _ rfl).1 (H.glo _ rfl).2 rfl rfl (sa_cons rfl (se_var hG (i := 1) rfl rfl (by decide) (by decide)) (sa_nil)) (by decide)))))
def N__law_run_lists : List Str := ["_law_run_here", "_law_beat_here", "_law_move"]
def m__law_run_lists (K : PySem.W.Frag) : Sl → LH → RS := sRet (eLc (iSrc (eVar 0)) (gNm 1) (bYes) (eLc (iSrc (eVar 1)) (gNm 2) (bYes) (eLst (aCons (eOp ixD (eVar 2) (eK (.int 0))) (aCons (eOp ixD (eVar 2) (eK (.int 1))) (aCons (eCall listD (aCons (eOp ixD (eVar 2) (eK (.int 2))) (aNil))) (aNil))))) [2]) [1])
def F__law_run_lists (K : PySem.W.Frag) : Fn := fnD N__law_run_lists (m__law_run_lists K)
theorem S__law_run_lists : FnScope N__law_run_lists ["_law_run_here"] (defScope s_law_run_lists) := ⟨rfl, rfl, rfl, by decide +kernel, rfl, by decide +kernel, by decide +kernel⟩
theorem b__law_run_lists {G : Pr} {T : Tb} {qual : Str} {f0 : Addr} {cdv : Value} {E : XK} (H : HyP G) (hA : AOk G.K (cf G.K))  : SSs (DefF G N__law_run_lists qual (defScope s_law_run_lists) f0 cdv 1 E) T (WD E) (defBody s_law_run_lists) (m__law_run_lists G.K) := by
  have hG := def_fm (G := G) (qual := qual) (f := f0) (cdv := cdv) (k := 1) (E := E) S__law_run_lists
  have hO := def_own (G := G) (N := N__law_run_lists) (qual := qual) (scope := defScope s_law_run_lists) (f := f0) (cdv := cdv) (k := 1) (E := E)
  exact sss_one (ss_ret (se_lc (own := [("_law_beat_here", 1)]) hG (blkOk_by (by decide +kernel)) (si_seq hG (se_var hG (i := 0) rfl rfl (by decide) (by decide))) rfl (sg_name (blk_fm hG) (i := 1) rfl rfl) (by decide) (sf_nil) (se_lc (own := [("_law_move", 2)]) (blk_fm hG) (blkOk_by (by decide +kernel)) (si_seq (blk_fm hG) (se_var (blk_fm hG) (i := 1) rfl rfl (by decide) (by decide))) rfl (sg_name (blk_fm (blk_fm hG)) (i := 2) rfl rfl) (by decide) (sf_nil) (se_lst (sa_cons rfl (se_ix (blk_fm (blk_fm hG)) rfl (se_var (blk_fm (blk_fm hG)) (i := 2) rfl rfl (by decide) (by decide)) (se_int)) (sa_cons rfl (se_ix (blk_fm (blk_fm hG)) rfl (se_var (blk_fm (blk_fm hG)) (i := 2) rfl rfl (by decide) (by decide)) (se_int)) (sa_cons rfl (se_callT (blk_fm (blk_fm hG)) (c_list (blk_fm (blk_fm hG))) cas_list rfl (H.free _ rfl) (by decide +kernel) rfl rfl (sa_cons rfl (se_ix (blk_fm (blk_fm hG)) rfl (se_var (blk_fm (blk_fm hG)) (i := 2) rfl rfl (by decide) (by decide)) (se_int)) (sa_nil)) (by decide) (by decide)) (sa_nil))))))))
def N_check_top : List Str := ["top", "least"]
def m_check_top (K : PySem.W.Frag) : Sl → LH → RS := sIf (bVal (eOp ltD (eVar 0) (eVar 1))) (sBad) (sNx)
def F_check_top (K : PySem.W.Frag) : Fn := fnD N_check_top (m_check_top K)
theorem S_check_top : FnScope N_check_top ["top", "least"] (defScope s_check_top) := ⟨rfl, rfl, rfl, by decide +kernel, rfl, by decide +kernel, by decide +kernel⟩
theorem b_check_top {G : Pr} {T : Tb} {qual : Str} {f0 : Addr} {cdv : Value} {E : XK} (H : HyP G) (hA : AOk G.K (cf G.K))  : SSs (DefF G N_check_top qual (defScope s_check_top) f0 cdv 1 E) T (WD E) (defBody s_check_top) (m_check_top G.K) := by
  have hG := def_fm (G := G) (qual := qual) (f := f0) (cdv := cdv) (k := 1) (E := E) S_check_top
  have hO := def_own (G := G) (N := N_check_top) (qual := qual) (scope := defScope s_check_top) (f := f0) (cdv := cdv) (k := 1) (E := E)
  exact sss_one (ss_if (sb_cmp (o_lt hG) ops_ltD (se_var hG (i := 0) rfl rfl (by decide) (by decide)) (se_var hG (i := 1) rfl rfl (by decide) (by decide)) (by with_unfolding_all rfl)) (sss_bad) (sss_nil))
def N_is_row_of : List Str := ["size", "items", "row"]
def m_is_row_of (K : PySem.W.Frag) : Sl → LH → RS := sRet (eAnd (eOp eqD (eCall lenD (aCons (eVar 2) (aNil))) (eVar 0)) (eAg true (iSrc (eVar 2)) (gNm 0) (eOp (inD false) (eVar 0) (eVar 1)) [none, some 1]))
def F_is_row_of (K : PySem.W.Frag) : Fn := fnD N_is_row_of (m_is_row_of K)
theorem S_is_row_of : FnScope N_is_row_of ["size", "items", "row"] (defScope s_is_row_of) := ⟨rfl, rfl, rfl, by decide +kernel, rfl, by decide +kernel, by decide +kernel⟩
theorem b_is_row_of {G : Pr} {T : Tb} {qual : Str} {f0 : Addr} {cdv : Value} {E : XK} (H : HyP G) (hA : AOk G.K (cf G.K)) {cd P0 : Addr} (hC : ∀ k E, CdOk (DefF G N_is_row_of qual (defScope s_is_row_of) f0 cdv k E) G T cd P0) : SSs (DefF G N_is_row_of qual (defScope s_is_row_of) f0 cdv 2 E) T (WD E) (defBody s_is_row_of) (m_is_row_of G.K) := by
  have hG := def_fm (G := G) (qual := qual) (f := f0) (cdv := cdv) (k := 2) (E := E) S_is_row_of
  have hO := def_own (G := G) (N := N_is_row_of) (qual := qual) (scope := defScope s_is_row_of) (f := f0) (cdv := cdv) (k := 2) (E := E)
  have hC := hC 2 E
  exact sss_one (ss_ret (se_and (se_cmp (o_eq hG) ops_eqD (se_callB hG (c_len hG) cas_len rfl (H.free _ rfl) (by decide +kernel) rfl rfl (sa_cons rfl (se_var hG (i := 2) rfl rfl (by decide) (by decide)) (sa_nil)) (by decide) (by decide)) (se_var hG (i := 0) rfl rfl (by decide) (by decide)) (by with_unfolding_all rfl)) (se_one (se_all (N' := ["item", "items"]) (capt := [none, some 1]) (j := 1) hG (by decide) hC (gOk_by (by decide +kernel)) rfl (H.free _ rfl) (si_seq hG (se_var hG (i := 2) rfl rfl (by decide) (by decide))) rfl (sgn_name (i := 0) rfl rfl) (by decide) (se_cmp (o_in (gen_fm (j := 1) (N' := ["item", "items"]) hG (by decide +kernel)) (by decide)) ops_inA (se_var (gen_fm (j := 1) (N' := ["item", "items"]) hG (by decide +kernel)) (i := 0) rfl rfl (by decide) (by decide)) (se_var (gen_fm (j := 1) (N' := ["item", "items"]) hG (by decide +kernel)) (i := 1) rfl rfl (by decide) (by decide)) (by with_unfolding_all rfl))))))
def N_as_state : List Str := ["size", "row"]
def m_as_state (K : PySem.W.Frag) : Sl → LH → RS := sSeq (sIf (bNot (bTru (eFn 3 (F_is_row_of K) (aCons (eVar 0) (aCons (eTup (aCons (eK (.int 0)) (aCons (eK (.int 1)) (aNil)))) (aCons (eVar 1) (aNil))))))) (sBad) (sNx)) (sRet (eCall tupleD (aCons (eVar 1) (aNil))))
def F_as_state (K : PySem.W.Frag) : Fn := fnD N_as_state (m_as_state K)
theorem S_as_state : FnScope N_as_state ["size", "row"] (defScope s_as_state) := ⟨rfl, rfl, rfl, by decide +kernel, rfl, by decide +kernel, by decide +kernel⟩
theorem b_as_state {G : Pr} {T : Tb} {qual : Str} {f0 : Addr} {cdv : Value} {E : XK} (H : HyP G) (hA : AOk G.K (cf G.K)) (ok_is_row_of : FG G T 3 (He.ga G.K "is_row_of") 3 (F_is_row_of G.K)) : SSs (DefF G N_as_state qual (defScope s_as_state) f0 cdv 3 E) T (WD E) (defBody s_as_state) (m_as_state G.K) := by
  have hG := def_fm (G := G) (qual := qual) (f := f0) (cdv := cdv) (k := 3) (E := E) S_as_state
  have hO := def_own (G := G) (N := N_as_state) (qual := qual) (scope := defScope s_as_state) (f := f0) (cdv := cdv) (k := 3) (E := E)
  exact sss_cons (ss_if (sb_not (sb_tru (fun _ _ => rfl) hG (se_fn hG ok_is_row_of (by decide) rfl (H.glo _ rfl).1 (H.glo _ rfl).2 rfl rfl (sa_cons rfl (se_var hG (i := 0) rfl rfl (by decide) (by decide)) (sa_cons rfl (se_tup (sa_cons rfl (se_int) (sa_cons rfl (se_int) (sa_nil)))) (sa_cons rfl (se_var hG (i := 1) rfl rfl (by decide) (by decide)) (sa_nil)))) (by decide)))) (sss_bad) (sss_nil)) (sss_one (ss_ret (se_callT hG (c_tuple hG) cas_tuple rfl (H.free _ rfl) (by decide +kernel) rfl rfl (sa_cons rfl (se_var hG (i := 1) rfl rfl (by decide) (by decide)) (sa_nil)) (by decide) (by decide))))
def N_corner_of : List Str := ["top", "state", "digit"]
def m_corner_of (K : PySem.W.Frag) : Sl → LH → RS := sRet (eCall tupleD (aCons (eLc (iSrc (eVar 1)) (gNm 2) (bYes) (eOp mulD (eVar 0) (eVar 2)) [2]) (aNil)))
def F_corner_of (K : PySem.W.Frag) : Fn := fnD N_corner_of (m_corner_of K)
theorem S_corner_of : FnScope N_corner_of ["top", "state"] (defScope s_corner_of) := ⟨rfl, rfl, rfl, by decide +kernel, rfl, by decide +kernel, by decide +kernel⟩
theorem b_corner_of {G : Pr} {T : Tb} {qual : Str} {f0 : Addr} {cdv : Value} {E : XK} (H : HyP G) (hA : AOk G.K (cf G.K))  : SSs (DefF G N_corner_of qual (defScope s_corner_of) f0 cdv 1 E) T (WD E) (defBody s_corner_of) (m_corner_of G.K) := by
  have hG := def_fm (G := G) (qual := qual) (f := f0) (cdv := cdv) (k := 1) (E := E) S_corner_of
  have hO := def_own (G := G) (N := N_corner_of) (qual := qual) (scope := defScope s_corner_of) (f := f0) (cdv := cdv) (k := 1) (E := E)
  exact sss_one (ss_ret (se_callT hG (c_tuple hG) cas_tuple rfl (H.free _ rfl) (by decide +kernel) rfl rfl (sa_cons rfl (se_lc (own := [("digit", 2)]) hG (blkOk_by (by decide +kernel)) (si_seq hG (se_var hG (i := 1) rfl rfl (by decide) (by decide))) rfl (sg_name (blk_fm hG) (i := 2) rfl rfl) (by decide) (sf_nil) (se_op (o_mul (blk_fm hG)) ops_mulD (se_var (blk_fm hG) (i := 0) rfl rfl (by decide) (by decide)) (se_var (blk_fm hG) (i := 2) rfl rfl (by decide) (by decide)))) (sa_nil)) (by decide) (by decide)))
def N_mark_of : List Str := ["top", "level"]
def m_mark_of (K : PySem.W.Frag) : Sl → LH → RS := sSeq (sIf (bVal (eOp eqD (eVar 1) (eK (.int 0)))) (sRet (eK (.int 0))) (sNx)) (sSeq (sIf (bVal (eOp eqD (eVar 1) (eVar 0))) (sRet (eK (.int 1))) (sNx)) (sRet (eK (.int 2))))
def F_mark_of (K : PySem.W.Frag) : Fn := fnD N_mark_of (m_mark_of K)
theorem S_mark_of : FnScope N_mark_of ["top", "level"] (defScope s_mark_of) := ⟨rfl, rfl, rfl, by decide +kernel, rfl, by decide +kernel, by decide +kernel⟩
theorem b_mark_of {G : Pr} {T : Tb} {qual : Str} {f0 : Addr} {cdv : Value} {E : XK} (H : HyP G) (hA : AOk G.K (cf G.K))  : SSs (DefF G N_mark_of qual (defScope s_mark_of) f0 cdv 1 E) T (WD E) (defBody s_mark_of) (m_mark_of G.K) := by
  have hG := def_fm (G := G) (qual := qual) (f := f0) (cdv := cdv) (k := 1) (E := E) S_mark_of
  have hO := def_own (G := G) (N := N_mark_of) (qual := qual) (scope := defScope s_mark_of) (f := f0) (cdv := cdv) (k := 1) (E := E)
  exact sss_cons (ss_if (sb_cmp (o_eq hG) ops_eqD (se_var hG (i := 1) rfl rfl (by decide) (by decide)) (se_int) (by with_unfolding_all rfl)) (sss_one (ss_ret (se_int))) (sss_nil)) (sss_cons (ss_if (sb_cmp (o_eq hG) ops_eqD (se_var hG (i := 1) rfl rfl (by decide) (by decide)) (se_var hG (i := 0) rfl rfl (by decide) (by decide)) (by with_unfolding_all rfl)) (sss_one (ss_ret (se_int))) (sss_nil)) (sss_one (ss_ret (se_int))))
def N_readable : List Str := ["top", "levels", "level"]
def m_readable (K : PySem.W.Frag) : Sl → LH → RS := sRet (eCall tupleD (aCons (eLc (iSrc (eVar 1)) (gNm 2) (bYes) (eFn 2 (F_mark_of K) (aCons (eVar 0) (aCons (eVar 2) (aNil)))) [2]) (aNil)))
def F_readable (K : PySem.W.Frag) : Fn := fnD N_readable (m_readable K)
theorem S_readable : FnScope N_readable ["top", "levels"] (defScope s_readable) := ⟨rfl, rfl, rfl, by decide +kernel, rfl, by decide +kernel, by decide +kernel⟩
theorem b_readable {G : Pr} {T : Tb} {qual : Str} {f0 : Addr} {cdv : Value} {E : XK} (H : HyP G) (hA : AOk G.K (cf G.K)) (ok_mark_of : FG G T 2 (He.ga G.K "mark_of") 2 (F_mark_of G.K)) : SSs (DefF G N_readable qual (defScope s_readable) f0 cdv 2 E) T (WD E) (defBody s_readable) (m_readable G.K) := by
  have hG := def_fm (G := G) (qual := qual) (f := f0) (cdv := cdv) (k := 2) (E := E) S_readable
  have hO := def_own (G := G) (N := N_readable) (qual := qual) (scope := defScope s_readable) (f := f0) (cdv := cdv) (k := 2) (E := E)
  exact sss_one (ss_ret (se_callT hG (c_tuple hG) cas_tuple rfl (H.free _ rfl) (by decide +kernel) rfl rfl (sa_cons rfl (se_lc (own := [("level", 2)]) hG (blkOk_by (by decide +kernel)) (si_seq hG (se_var hG (i := 1) rfl rfl (by decide) (by decide))) rfl (sg_name (blk_fm hG) (i := 2) rfl rfl) (by decide) (sf_nil) (se_fn (blk_fm hG) ok_mark_of (by decide) rfl (H.glo _ rfl).1 (H.glo _ rfl).2 rfl rfl (sa_cons rfl (se_var (blk_fm hG) (i := 0) rfl rfl (by decide) (by decide)) (sa_cons rfl (se_var (blk_fm hG) (i := 2) rfl rfl (by decide) (by decide)) (sa_nil))) (by decide))) (sa_nil)) (by decide) (by decide)))
def N_digits_of : List Str := ["mark"]
def m_digits_of (K : PySem.W.Frag) : Sl → LH → RS := sSeq (sIf (bVal (eOp eqD (eVar 0) (eK (.int 2)))) (sRet (eTup (aCons (eK (.int 0)) (aCons (eK (.int 1)) (aNil))))) (sNx)) (sRet (eTup (aCons (eVar 0) (aNil))))
def F_digits_of (K : PySem.W.Frag) : Fn := fnD N_digits_of (m_digits_of K)
theorem S_digits_of : FnScope N_digits_of ["mark"] (defScope s_digits_of) := ⟨rfl, rfl, rfl, by decide +kernel, rfl, by decide +kernel, by decide +kernel⟩
theorem b_digits_of {G : Pr} {T : Tb} {qual : Str} {f0 : Addr} {cdv : Value} {E : XK} (H : HyP G) (hA : AOk G.K (cf G.K))  : SSs (DefF G N_digits_of qual (defScope s_digits_of) f0 cdv 1 E) T (WD E) (defBody s_digits_of) (m_digits_of G.K) := by
  have hG := def_fm (G := G) (qual := qual) (f := f0) (cdv := cdv) (k := 1) (E := E) S_digits_of
  have hO := def_own (G := G) (N := N_digits_of) (qual := qual) (scope := defScope s_digits_of) (f := f0) (cdv := cdv) (k := 1) (E := E)
  exact sss_cons (ss_if (sb_cmp (o_eq hG) ops_eqD (se_var hG (i := 0) rfl rfl (by decide) (by decide)) (se_int) (by with_unfolding_all rfl)) (sss_one (ss_ret (se_tup (sa_cons rfl (se_int) (sa_cons rfl (se_int) (sa_nil)))))) (sss_nil)) (sss_one (ss_ret (se_tup (sa_cons rfl (se_var hG (i := 0) rfl rfl (by decide) (by decide)) (sa_nil)))))
def N_can_read : List Str := ["room", "heard", "digits"]
def m_can_read (K : PySem.W.Frag) : Sl → LH → RS := sSeq (sIf (bVal (eOp neD (eCall lenD (aCons (eVar 2) (aNil))) (eCall lenD (aCons (eVar 1) (aNil))))) (sRet (eK (.bl false))) (sNx)) (sRet (eAg true (iArg zipD (aCons (eVar 1) (aCons (eVar 2) (aNil)))) (gTp 2 (gCon (gNm 0) (gCon (gNm 1) (gNil')))) (eOp (inD false) (eVar 1) (eFn 1 (F_digits_of K) (aCons (eOp ixD (eVar 2) (eVar 0)) (aNil)))) [none, none, some 0]))
def F_can_read (K : PySem.W.Frag) : Fn := fnD N_can_read (m_can_read K)
theorem S_can_read : FnScope N_can_read ["room", "heard", "digits"] (defScope s_can_read) := ⟨rfl, rfl, rfl, by decide +kernel, rfl, by decide +kernel, by decide +kernel⟩
theorem b_can_read {G : Pr} {T : Tb} {qual : Str} {f0 : Addr} {cdv : Value} {E : XK} (H : HyP G) (hA : AOk G.K (cf G.K)) (ok_digits_of : FG G T 2 (He.ga G.K "digits_of") 1 (F_digits_of G.K)) {cd P0 : Addr} (hC : ∀ k E, CdOk (DefF G N_can_read qual (defScope s_can_read) f0 cdv k E) G T cd P0) : SSs (DefF G N_can_read qual (defScope s_can_read) f0 cdv 3 E) T (WD E) (defBody s_can_read) (m_can_read G.K) := by
  have hG := def_fm (G := G) (qual := qual) (f := f0) (cdv := cdv) (k := 3) (E := E) S_can_read
  have hO := def_own (G := G) (N := N_can_read) (qual := qual) (scope := defScope s_can_read) (f := f0) (cdv := cdv) (k := 3) (E := E)
  have hC := hC 3 E
  exact sss_cons (ss_if (sb_cmp (o_ne hG) ops_neD (se_callB hG (c_len hG) cas_len rfl (H.free _ rfl) (by decide +kernel) rfl rfl (sa_cons rfl (se_var hG (i := 2) rfl rfl (by decide) (by decide)) (sa_nil)) (by decide) (by decide)) (se_callB hG (c_len hG) cas_len rfl (H.free _ rfl) (by decide +kernel) rfl rfl (sa_cons rfl (se_var hG (i := 1) rfl rfl (by decide) (by decide)) (sa_nil)) (by decide) (by decide)) (by with_unfolding_all rfl)) (sss_one (ss_ret (se_bl))) (sss_nil)) (sss_one (ss_ret (se_all (N' := ["house", "digit", "room"]) (capt := [none, none, some 0]) (j := 2) hG (by decide) hC (gOk_by (by decide +kernel)) rfl (H.free _ rfl) (si_zip hG rfl (H.free _ rfl) rfl rfl (sa_cons rfl (se_var hG (i := 1) rfl rfl (by decide) (by decide)) (sa_cons rfl (se_var hG (i := 2) rfl rfl (by decide) (by decide)) (sa_nil)))) rfl (sgn_tup rfl (sgns_cons rfl (sgn_name (i := 0) rfl rfl) (sgns_cons rfl (sgn_name (i := 1) rfl rfl) (sgns_nil)))) (by decide) (se_cmp (o_in (gen_fm (j := 2) (N' := ["house", "digit", "room"]) hG (by decide +kernel)) (by decide)) ops_inA (se_var (gen_fm (j := 2) (N' := ["house", "digit", "room"]) hG (by decide +kernel)) (i := 1) rfl rfl (by decide) (by decide)) (se_fn (gen_fm (j := 2) (N' := ["house", "digit", "room"]) hG (by decide +kernel)) ok_digits_of (by decide) rfl (H.glo _ rfl).1 (H.glo _ rfl).2 rfl rfl (sa_cons rfl (se_ix (gen_fm (j := 2) (N' := ["house", "digit", "room"]) hG (by decide +kernel)) rfl (se_var (gen_fm (j := 2) (N' := ["house", "digit", "room"]) hG (by decide +kernel)) (i := 2) rfl rfl (by decide) (by decide)) (se_var (gen_fm (j := 2) (N' := ["house", "digit", "room"]) hG (by decide +kernel)) (i := 0) rfl rfl (by decide) (by decide))) (sa_nil)) (by decide)) (by with_unfolding_all rfl)))))
def N_RowsTable_digit_for : List Str := ["self", "digits", "place", "digit"]
def m_RowsTable_digit_for (K : PySem.W.Frag) : Sl → LH → RS := sSeq (sAsg (eK (.int 0)) (gNm 2)) (sSeq (sFor (iSrc (eVar 1)) (gNm 3) (sAsg (eOp addD (eOp mulD (eK (.int 2)) (eVar 2)) (eVar 3)) (gNm 2))) (sRet (eOp ixD (eFld (cf K) "bits" (eVar 0)) (eVar 2))))
def F_RowsTable_digit_for (K : PySem.W.Frag) : Fn := fnD N_RowsTable_digit_for (m_RowsTable_digit_for K)
theorem S_RowsTable_digit_for : FnScope N_RowsTable_digit_for ["self", "digits"] (defScope s_RowsTable_digit_for) := ⟨rfl, rfl, rfl, by decide +kernel, rfl, by decide +kernel, by decide +kernel⟩
theorem b_RowsTable_digit_for {G : Pr} {T : Tb} {qual : Str} {f0 : Addr} {cdv : Value} {E : XK} (H : HyP G) (hA : AOk G.K (cf G.K))  : SSs (DefF G N_RowsTable_digit_for qual (defScope s_RowsTable_digit_for) f0 cdv 1 E) T (WD E) (defBody s_RowsTable_digit_for) (m_RowsTable_digit_for G.K) := by
  have hG := def_fm (G := G) (qual := qual) (f := f0) (cdv := cdv) (k := 1) (E := E) S_RowsTable_digit_for
  have hO := def_own (G := G) (N := N_RowsTable_digit_for) (qual := qual) (scope := defScope s_RowsTable_digit_for) (f := f0) (cdv := cdv) (k := 1) (E := E)
  exact sss_cons (ss_set (i := 2) hG rfl rfl rfl (se_int)) (sss_cons (ss_for hG hO (si_seq hG (se_var hG (i := 1) rfl rfl (by decide) (by decide))) rfl (sg_name hG (i := 3) rfl rfl) (sss_one (ss_set (i := 2) hG rfl rfl rfl (se_op (o_add hG) ops_addD (se_op (o_mul hG) ops_mulD (se_int) (se_var hG (i := 2) rfl rfl (by decide) (by decide))) (se_var hG (i := 3) rfl rfl (by decide) (by decide)))))) (sss_one (ss_ret (se_ix hG rfl (se_fld hG hA (se_var hG (i := 0) rfl rfl (by decide) (by decide)) (fun _ _ => rfl)) (se_var hG (i := 2) rfl rfl (by decide) (by decide))))))
def N_digit_of_sign : List Str := ["sign"]
def m_digit_of_sign (K : PySem.W.Frag) : Sl → LH → RS := sSeq (sIf (bVal (eOp eqD (eVar 0) (eK (.int 1)))) (sRet (eK (.int 1))) (sNx)) (sRet (eK (.int 0)))
def F_digit_of_sign (K : PySem.W.Frag) : Fn := fnD N_digit_of_sign (m_digit_of_sign K)
theorem S_digit_of_sign : FnScope N_digit_of_sign ["sign"] (defScope s_digit_of_sign) := ⟨rfl, rfl, rfl, by decide +kernel, rfl, by decide +kernel, by decide +kernel⟩
theorem b_digit_of_sign {G : Pr} {T : Tb} {qual : Str} {f0 : Addr} {cdv : Value} {E : XK} (H : HyP G) (hA : AOk G.K (cf G.K))  : SSs (DefF G N_digit_of_sign qual (defScope s_digit_of_sign) f0 cdv 1 E) T (WD E) (defBody s_digit_of_sign) (m_digit_of_sign G.K) := by
  have hG := def_fm (G := G) (qual := qual) (f := f0) (cdv := cdv) (k := 1) (E := E) S_digit_of_sign
  have hO := def_own (G := G) (N := N_digit_of_sign) (qual := qual) (scope := defScope s_digit_of_sign) (f := f0) (cdv := cdv) (k := 1) (E := E)
  exact sss_cons (ss_if (sb_cmp (o_eq hG) ops_eqD (se_var hG (i := 0) rfl rfl (by decide) (by decide)) (se_int) (by with_unfolding_all rfl)) (sss_one (ss_ret (se_int))) (sss_nil)) (sss_one (ss_ret (se_int)))
def N_TermsTable_digit_for : List Str := ["self", "digits", "met", "house", "sign", "digit", "term"]
def m_TermsTable_digit_for (K : PySem.W.Frag) : Sl → LH → RS := sSeq (sAsg (eLc (iArg zipD (aCons (eFld (cf K) "hearings" (eVar 0)) (aCons (eVar 1) (aNil)))) (gTp 2 (gCon (gTp 2 (gCon (gNm 3) (gCon (gNm 4) (gNil')))) (gCon (gNm 5) (gNil')))) (bVal (eOp eqD (eVar 5) (eFn 1 (F_digit_of_sign K) (aCons (eVar 4) (aNil))))) (eVar 3) [3, 4, 5]) (gNm 2)) (sSeq (sFor (iSrc (eFld (cf K) "terms" (eVar 0))) (gNm 6) (sIf (bTru (eAg true (iSrc (eVar 6)) (gNm 0) (eOp (inD false) (eVar 0) (eVar 1)) [none, some 2])) (sRet (eK (.int 1))) (sNx))) (sRet (eK (.int 0))))
def F_TermsTable_digit_for (K : PySem.W.Frag) : Fn := fnD N_TermsTable_digit_for (m_TermsTable_digit_for K)
theorem S_TermsTable_digit_for : FnScope N_TermsTable_digit_for ["self", "digits"] (defScope s_TermsTable_digit_for) := ⟨rfl, rfl, rfl, by decide +kernel, rfl, by decide +kernel, by decide +kernel⟩
theorem b_TermsTable_digit_for {G : Pr} {T : Tb} {qual : Str} {f0 : Addr} {cdv : Value} {E : XK} (H : HyP G) (hA : AOk G.K (cf G.K)) (ok_digit_of_sign : FG G T 2 (He.ga G.K "digit_of_sign") 1 (F_digit_of_sign G.K)) {cd P0 : Addr} (hC : ∀ k E, CdOk (DefF G N_TermsTable_digit_for qual (defScope s_TermsTable_digit_for) f0 cdv k E) G T cd P0) : SSs (DefF G N_TermsTable_digit_for qual (defScope s_TermsTable_digit_for) f0 cdv 2 E) T (WD E) (defBody s_TermsTable_digit_for) (m_TermsTable_digit_for G.K) := by
  have hG := def_fm (G := G) (qual := qual) (f := f0) (cdv := cdv) (k := 2) (E := E) S_TermsTable_digit_for
  have hO := def_own (G := G) (N := N_TermsTable_digit_for) (qual := qual) (scope := defScope s_TermsTable_digit_for) (f := f0) (cdv := cdv) (k := 2) (E := E)
  have hC := hC 2 E
  exact sss_cons (ss_setC (i := 2) hG rfl rfl def_fn (se_lc (own := [("house", 3), ("sign", 4), ("digit", 5)]) hG (blkOk_by (by decide +kernel)) (si_zip hG rfl (H.free _ rfl) rfl rfl (sa_cons rfl (se_fld hG hA (se_var hG (i := 0) rfl rfl (by decide) (by decide)) (fun _ _ => rfl)) (sa_cons rfl (se_var hG (i := 1) rfl rfl (by decide) (by decide)) (sa_nil)))) rfl (sg_tup (blk_fm hG) rfl (sgs_cons rfl (sg_tup (blk_fm hG) rfl (sgs_cons rfl (sg_name (blk_fm hG) (i := 3) rfl rfl) (sgs_cons rfl (sg_name (blk_fm hG) (i := 4) rfl rfl) (sgs_nil)))) (sgs_cons rfl (sg_name (blk_fm hG) (i := 5) rfl rfl) (sgs_nil)))) (by decide) (sf_one (sb_cmp (o_eq (blk_fm hG)) ops_eqD (se_var (blk_fm hG) (i := 5) rfl rfl (by decide) (by decide)) (se_fn (blk_fm hG) ok_digit_of_sign (by decide) rfl (H.glo _ rfl).1 (H.glo _ rfl).2 rfl rfl (sa_cons rfl (se_var (blk_fm hG) (i := 4) rfl rfl (by decide) (by decide)) (sa_nil)) (by decide)) (by with_unfolding_all rfl))) (se_var (blk_fm hG) (i := 3) rfl rfl (by decide) (by decide))) rfl) (sss_cons (ss_for hG hO (si_seq hG (se_fld hG hA (se_var hG (i := 0) rfl rfl (by decide) (by decide)) (fun _ _ => rfl))) rfl (sg_name hG (i := 6) rfl rfl) (sss_one (ss_if (sb_tru (fun _ _ => rfl) hG (se_all (N' := ["house", "met"]) (capt := [none, some 2]) (j := 1) hG (by decide) hC (gOk_by (by decide +kernel)) rfl (H.free _ rfl) (si_seq hG (se_var hG (i := 6) rfl rfl (by decide) (by decide))) rfl (sgn_name (i := 0) rfl rfl) (by decide) (se_cmp (o_in (gen_fm (j := 1) (N' := ["house", "met"]) hG (by decide +kernel)) (by decide)) ops_inA (se_var (gen_fm (j := 1) (N' := ["house", "met"]) hG (by decide +kernel)) (i := 0) rfl rfl (by decide) (by decide)) (se_var (gen_fm (j := 1) (N' := ["house", "met"]) hG (by decide +kernel)) (i := 1) rfl rfl (by decide) (by decide)) (by with_unfolding_all rfl)))) (sss_one (ss_ret (se_int))) (sss_nil)))) (sss_one (ss_ret (se_int))))
def N_digit_of_step : List Str := ["step"]
def m_digit_of_step (K : PySem.W.Frag) : Sl → LH → RS := sSeq (sIf (bVal (eOp eqD (eVar 0) (eK (.int 1)))) (sRet (eK (.int 1))) (sNx)) (sRet (eK (.int 0)))
def F_digit_of_step (K : PySem.W.Frag) : Fn := fnD N_digit_of_step (m_digit_of_step K)
theorem S_digit_of_step : FnScope N_digit_of_step ["step"] (defScope s_digit_of_step) := ⟨rfl, rfl, rfl, by decide +kernel, rfl, by decide +kernel, by decide +kernel⟩
theorem b_digit_of_step {G : Pr} {T : Tb} {qual : Str} {f0 : Addr} {cdv : Value} {E : XK} (H : HyP G) (hA : AOk G.K (cf G.K))  : SSs (DefF G N_digit_of_step qual (defScope s_digit_of_step) f0 cdv 1 E) T (WD E) (defBody s_digit_of_step) (m_digit_of_step G.K) := by
  have hG := def_fm (G := G) (qual := qual) (f := f0) (cdv := cdv) (k := 1) (E := E) S_digit_of_step
  have hO := def_own (G := G) (N := N_digit_of_step) (qual := qual) (scope := defScope s_digit_of_step) (f := f0) (cdv := cdv) (k := 1) (E := E)
  exact sss_cons (ss_if (sb_cmp (o_eq hG) ops_eqD (se_var hG (i := 0) rfl rfl (by decide) (by decide)) (se_int) (by with_unfolding_all rfl)) (sss_one (ss_ret (se_int))) (sss_nil)) (sss_one (ss_ret (se_int)))
def M_digit_for (K : PySem.W.Frag) : MT := fun C => if C = He.ga K "RowsTable" then some (2, F_RowsTable_digit_for K) else if C = He.ga K "TermsTable" then some (2, F_TermsTable_digit_for K) else none
def N_is_good : List Str := ["web", "top", "levels", "move", "house", "step", "digits", "table"]
def m_is_good (K : PySem.W.Frag) : Sl → LH → RS := sSeq (sAsg (eVar 3) (gTp 3 (gCon (gNm 4) (gCon (gNm 5) (gCon (gNm 6) (gNil')))))) (sSeq (sIf (bOr (bNot (bVal (eChain leD ltD (eK (.int 0)) (eVar 4) (eFld (cf K) "size" (eVar 0))))) (bVal (eOp (inD true) (eVar 5) (eTup (aCons (eK (.int 1)) (aCons (eUn negD (eK (.int 1))) (aNil))))))) (sRet (eK (.bl false))) (sNx)) (sSeq (sIf (bNot (bVal (eChain leD leD (eK (.int 0)) (eOp addD (eOp ixD (eVar 2) (eVar 4)) (eVar 5)) (eVar 1)))) (sRet (eK (.bl false))) (sNx)) (sSeq (sAsg (eOp ixD (eFld (cf K) "tables" (eVar 0)) (eVar 4)) (gNm 7)) (sSeq (sIf (bNot (bTru (eFn 3 (F_can_read K) (aCons (eFn 2 (F_readable K) (aCons (eVar 1) (aCons (eVar 2) (aNil)))) (aCons (eFld (cf K) "heard" (eVar 7)) (aCons (eVar 6) (aNil))))))) (sRet (eK (.bl false))) (sNx)) (sRet (eOp eqD (eMe (M_digit_for K) "digit_for" (eVar 7) (aCons (eVar 6) (aNil))) (eFn 1 (F_digit_of_step K) (aCons (eVar 5) (aNil)))))))))
def F_is_good (K : PySem.W.Frag) : Fn := fnD N_is_good (m_is_good K)
theorem S_is_good : FnScope N_is_good ["web", "top", "levels", "move"] (defScope s_is_good) := ⟨rfl, rfl, rfl, by decide +kernel, rfl, by decide +kernel, by decide +kernel⟩
theorem b_is_good {G : Pr} {T : Tb} {qual : Str} {f0 : Addr} {cdv : Value} {E : XK} (H : HyP G) (hA : AOk G.K (cf G.K)) (ok_can_read : FG G T 4 (He.ga G.K "can_read") 3 (F_can_read G.K)) (ok_digit_of_step : FG G T 2 (He.ga G.K "digit_of_step") 1 (F_digit_of_step G.K)) (ok_readable : FG G T 3 (He.ga G.K "readable") 2 (F_readable G.K)) (MG_digit_for : MG G T 3 "digit_for" (M_digit_for G.K)) : SSs (DefF G N_is_good qual (defScope s_is_good) f0 cdv 4 E) T (WD E) (defBody s_is_good) (m_is_good G.K) := by
  have hG := def_fm (G := G) (qual := qual) (f := f0) (cdv := cdv) (k := 4) (E := E) S_is_good
  have hO := def_own (G := G) (N := N_is_good) (qual := qual) (scope := defScope s_is_good) (f := f0) (cdv := cdv) (k := 4) (E := E)
  exact sss_cons (ss_tup hG rfl (sgs_cons rfl (sg_name hG (i := 4) rfl rfl) (sgs_cons rfl (sg_name hG (i := 5) rfl rfl) (sgs_cons rfl (sg_name hG (i := 6) rfl rfl) (sgs_nil)))) (se_var hG (i := 3) rfl rfl (by decide) (by decide)) (fun _ _ => rfl) (fun _ _ => rfl)) (sss_cons (ss_if (sb_sw (sw_or (sb_not (sb_chain (o_le hG) ops_leD (o_lt hG) ops_ltD (se_int) (se_var hG (i := 4) rfl rfl (by decide) (by decide)) (se_fld hG hA (se_var hG (i := 0) rfl rfl (by decide) (by decide)) (fun _ _ => rfl)) (by with_unfolding_all rfl))) (sw_or1 (sb_cmp (o_nin hG (by decide)) ops_ninA (se_var hG (i := 5) rfl rfl (by decide) (by decide)) (se_tup (sa_cons rfl (se_int) (sa_cons rfl (se_un (o_neg hG) uns_negD (se_int)) (sa_nil)))) (by with_unfolding_all rfl))))) (sss_one (ss_ret (se_bl))) (sss_nil)) (sss_cons (ss_if (sb_not (sb_chain (o_le hG) ops_leD (o_le hG) ops_leD (se_int) (se_op (o_add hG) ops_addD (se_ix hG rfl (se_var hG (i := 2) rfl rfl (by decide) (by decide)) (se_var hG (i := 4) rfl rfl (by decide) (by decide))) (se_var hG (i := 5) rfl rfl (by decide) (by decide))) (se_var hG (i := 1) rfl rfl (by decide) (by decide)) (by with_unfolding_all rfl))) (sss_one (ss_ret (se_bl))) (sss_nil)) (sss_cons (ss_set (i := 7) hG rfl rfl rfl (se_ix hG rfl (se_fld hG hA (se_var hG (i := 0) rfl rfl (by decide) (by decide)) (fun _ _ => rfl)) (se_var hG (i := 4) rfl rfl (by decide) (by decide)))) (sss_cons (ss_if (sb_not (sb_tru (fun _ _ => rfl) hG (se_fn hG ok_can_read (by decide) rfl (H.glo _ rfl).1 (H.glo _ rfl).2 rfl rfl (sa_cons rfl (se_fn hG ok_readable (by decide) rfl (H.glo _ rfl).1 (H.glo _ rfl).2 rfl rfl (sa_cons rfl (se_var hG (i := 1) rfl rfl (by decide) (by decide)) (sa_cons rfl (se_var hG (i := 2) rfl rfl (by decide) (by decide)) (sa_nil))) (by decide)) (sa_cons rfl (se_fld hG hA (se_var hG (i := 7) rfl rfl (by decide) (by decide)) (fun _ _ => rfl)) (sa_cons rfl (se_var hG (i := 6) rfl rfl (by decide) (by decide)) (sa_nil)))) (by decide)))) (sss_one (ss_ret (se_bl))) (sss_nil)) (sss_one (ss_ret (se_cmp (o_eq hG) ops_eqD (se_me hG MG_digit_for (by decide) (se_var hG (i := 7) rfl rfl (by decide) (by decide)) rfl rfl (sa_cons rfl (se_var hG (i := 6) rfl rfl (by decide) (by decide)) (sa_nil)) (fun _ _ => ⟨_, rfl⟩)) (se_fn hG ok_digit_of_step (by decide) rfl (H.glo _ rfl).1 (H.glo _ rfl).2 rfl rfl (sa_cons rfl (se_var hG (i := 5) rfl rfl (by decide) (by decide)) (sa_nil)) (by decide)) (by with_unfolding_all rfl))))))))
def N_levels_after : List Str := ["web", "top", "levels", "beat", "moves", "after", "last", "place", "move", "house", "step", "_"]
def m_levels_after (K : PySem.W.Frag) : Sl → LH → RS := sSeq (sAsg (eCall listD (aCons (eVar 2) (aNil))) (gNm 5)) (sSeq (sAsg (eUn negD (eK (.int 1))) (gNm 6)) (sSeq (sFor (iArg enumD (aCons (eVar 4) (aNil))) (gTp 2 (gCon (gNm 7) (gCon (gNm 8) (gNil')))) (sSeq (sAsg (eVar 8) (gTp 3 (gCon (gNm 9) (gCon (gNm 10) (gCon (gNm 11) (gNil')))))) (sSeq (sIf (bOr (bVal (eOp leD (eVar 9) (eVar 6))) (bNot (bTru (eFn 4 (F_is_good K) (aCons (eVar 0) (aCons (eVar 1) (aCons (eVar 2) (aCons (eVar 8) (aNil))))))))) (sBad) (sNx)) (sSeq (sSet (eVar 5) (eVar 9) (eOp addD (eOp ixD (eVar 2) (eVar 9)) (eVar 10))) (sAsg (eVar 9) (gNm 6)))))) (sRet (eCall tupleD (aCons (eVar 5) (aNil))))))
def F_levels_after (K : PySem.W.Frag) : Fn := fnD N_levels_after (m_levels_after K)
theorem S_levels_after : FnScope N_levels_after ["web", "top", "levels", "beat", "moves"] (defScope s_levels_after) := ⟨rfl, rfl, rfl, by decide +kernel, rfl, by decide +kernel, by decide +kernel⟩
theorem b_levels_after {G : Pr} {T : Tb} {qual : Str} {f0 : Addr} {cdv : Value} {E : XK} (H : HyP G) (hA : AOk G.K (cf G.K)) (ok_is_good : FG G T 5 (He.ga G.K "is_good") 4 (F_is_good G.K)) : SSs (DefF G N_levels_after qual (defScope s_levels_after) f0 cdv 5 E) T (WD E) (defBody s_levels_after) (m_levels_after G.K) := by
  have hG := def_fm (G := G) (qual := qual) (f := f0) (cdv := cdv) (k := 5) (E := E) S_levels_after
  have hO := def_own (G := G) (N := N_levels_after) (qual := qual) (scope := defScope s_levels_after) (f := f0) (cdv := cdv) (k := 5) (E := E)
  exact sss_cons (ss_set (i := 5) hG rfl rfl rfl (se_callT hG (c_list hG) cas_list rfl (H.free _ rfl) (by decide +kernel) rfl rfl (sa_cons rfl (se_var hG (i := 2) rfl rfl (by decide) (by decide)) (sa_nil)) (by decide) (by decide))) (sss_cons (ss_set (i := 6) hG rfl rfl rfl (se_un (o_neg hG) uns_negD (se_int))) (sss_cons (ss_for hG hO (si_enum hG rfl (H.free _ rfl) rfl (sa_cons rfl (se_var hG (i := 4) rfl rfl (by decide) (by decide)) (sa_nil))) rfl (sg_tup hG rfl (sgs_cons rfl (sg_name hG (i := 7) rfl rfl) (sgs_cons rfl (sg_name hG (i := 8) rfl rfl) (sgs_nil)))) (sss_cons (ss_tup hG rfl (sgs_cons rfl (sg_name hG (i := 9) rfl rfl) (sgs_cons rfl (sg_name hG (i := 10) rfl rfl) (sgs_cons rfl (sg_name hG (i := 11) rfl rfl) (sgs_nil)))) (se_var hG (i := 8) rfl rfl (by decide) (by decide)) (fun _ _ => rfl) (fun _ _ => rfl)) (sss_cons (ss_if (sb_sw (sw_or (sb_cmp (o_le hG) ops_leD (se_var hG (i := 9) rfl rfl (by decide) (by decide)) (se_var hG (i := 6) rfl rfl (by decide) (by decide)) (by with_unfolding_all rfl)) (sw_or1 (sb_not (sb_tru (fun _ _ => rfl) hG (se_fn hG ok_is_good (by decide) rfl (H.glo _ rfl).1 (H.glo _ rfl).2 rfl rfl (sa_cons rfl (se_var hG (i := 0) rfl rfl (by decide) (by decide)) (sa_cons rfl (se_var hG (i := 1) rfl rfl (by decide) (by decide)) (sa_cons rfl (se_var hG (i := 2) rfl rfl (by decide) (by decide)) (sa_cons rfl (se_var hG (i := 8) rfl rfl (by decide) (by decide)) (sa_nil))))) (by decide))))))) (sss_bad) (sss_nil)) (sss_cons (ss_sub rfl rfl (se_var hG (i := 5) rfl rfl (by decide) (by decide)) (se_var hG (i := 9) rfl rfl (by decide) (by decide)) (se_op (o_add hG) ops_addD (se_ix hG rfl (se_var hG (i := 2) rfl rfl (by decide) (by decide)) (se_var hG (i := 9) rfl rfl (by decide) (by decide))) (se_var hG (i := 10) rfl rfl (by decide) (by decide))) (fun _ _ => rfl) (fun _ _ _ => rfl)) (sss_one (ss_set (i := 6) hG rfl rfl rfl (se_var hG (i := 9) rfl rfl (by decide) (by decide)))))))) (sss_one (ss_ret (se_callT hG (c_tuple hG) cas_tuple rfl (H.free _ rfl) (by decide +kernel) rfl rfl (sa_cons rfl (se_var hG (i := 5) rfl rfl (by decide) (by decide)) (sa_nil)) (by decide) (by decide))))))
def N_levels_along : List Str := ["web", "top", "start", "run", "levels", "rows", "beat", "moves"]
def m_levels_along (K : PySem.W.Frag) : Sl → LH → RS := sSeq (sAsg (eFn 2 (F_corner_of K) (aCons (eVar 1) (aCons (eVar 2) (aNil)))) (gNm 4)) (sSeq (sAsg (eLst (aCons (eVar 4) (aNil))) (gNm 5)) (sSeq (sFor (iArg enumD (aCons (eVar 3) (aNil))) (gTp 2 (gCon (gNm 6) (gCon (gNm 7) (gNil')))) (sSeq (sAsg (eFn 5 (F_levels_after K) (aCons (eVar 0) (aCons (eVar 1) (aCons (eVar 4) (aCons (eVar 6) (aCons (eVar 7) (aNil))))))) (gNm 4)) (sDrop (eBm isL appendD (eVar 5) (aCons (eVar 4) (aNil)))))) (sRet (eCall tupleD (aCons (eVar 5) (aNil))))))
def F_levels_along (K : PySem.W.Frag) : Fn := fnD N_levels_along (m_levels_along K)
theorem S_levels_along : FnScope N_levels_along ["web", "top", "start", "run"] (defScope s_levels_along) := ⟨rfl, rfl, rfl, by decide +kernel, rfl, by decide +kernel, by decide +kernel⟩
theorem b_levels_along {G : Pr} {T : Tb} {qual : Str} {f0 : Addr} {cdv : Value} {E : XK} (H : HyP G) (hA : AOk G.K (cf G.K)) (ok_corner_of : FG G T 2 (He.ga G.K "corner_of") 2 (F_corner_of G.K)) (ok_levels_after : FG G T 6 (He.ga G.K "levels_after") 5 (F_levels_after G.K)) : SSs (DefF G N_levels_along qual (defScope s_levels_along) f0 cdv 6 E) T (WD E) (defBody s_levels_along) (m_levels_along G.K) := by
  have hG := def_fm (G := G) (qual := qual) (f := f0) (cdv := cdv) (k := 6) (E := E) S_levels_along
  have hO := def_own (G := G) (N := N_levels_along) (qual := qual) (scope := defScope s_levels_along) (f := f0) (cdv := cdv) (k := 6) (E := E)
  exact sss_cons (ss_set (i := 4) hG rfl rfl rfl (se_fn hG ok_corner_of (by decide) rfl (H.glo _ rfl).1 (H.glo _ rfl).2 rfl rfl (sa_cons rfl (se_var hG (i := 1) rfl rfl (by decide) (by decide)) (sa_cons rfl (se_var hG (i := 2) rfl rfl (by decide) (by decide)) (sa_nil))) (by decide))) (sss_cons (ss_set (i := 5) hG rfl rfl rfl (se_lst (sa_cons rfl (se_var hG (i := 4) rfl rfl (by decide) (by decide)) (sa_nil)))) (sss_cons (ss_for hG hO (si_enum hG rfl (H.free _ rfl) rfl (sa_cons rfl (se_var hG (i := 3) rfl rfl (by decide) (by decide)) (sa_nil))) rfl (sg_tup hG rfl (sgs_cons rfl (sg_name hG (i := 6) rfl rfl) (sgs_cons rfl (sg_name hG (i := 7) rfl rfl) (sgs_nil)))) (sss_cons (ss_set (i := 4) hG rfl rfl rfl (se_fn hG ok_levels_after (by decide) rfl (H.glo _ rfl).1 (H.glo _ rfl).2 rfl rfl (sa_cons rfl (se_var hG (i := 0) rfl rfl (by decide) (by decide)) (sa_cons rfl (se_var hG (i := 1) rfl rfl (by decide) (by decide)) (sa_cons rfl (se_var hG (i := 4) rfl rfl (by decide) (by decide)) (sa_cons rfl (se_var hG (i := 6) rfl rfl (by decide) (by decide)) (sa_cons rfl (se_var hG (i := 7) rfl rfl (by decide) (by decide)) (sa_nil)))))) (by decide))) (sss_one (ss_expr rfl (se_bm hG F.plainAttrs_list F.slot_list_append F.type_list_append (fun _ _ => mt_append) mts_append (se_var hG (i := 5) rfl rfl (by decide) (by decide)) rfl rfl (sa_cons rfl (se_var hG (i := 4) rfl rfl (by decide) (by decide)) (sa_nil)) ⟨fun _ _ => rfl, fun _ _ => rfl⟩ rfl))))) (sss_one (ss_ret (se_callT hG (c_tuple hG) cas_tuple rfl (H.free _ rfl) (by decide +kernel) rfl rfl (sa_cons rfl (se_var hG (i := 5) rfl rfl (by decide) (by decide)) (sa_nil)) (by decide) (by decide))))))
def N_fine_states : List Str := ["web", "top", "start", "run"]
def m_fine_states (K : PySem.W.Frag) : Sl → LH → RS := sSeq (sDrop (eFn 2 (F_check_top K) (aCons (eVar 1) (aCons (eK (.int 1)) (aNil))))) (sSeq (sAsg (eFn 2 (F_as_state K) (aCons (eFld (cf K) "size" (eVar 0)) (aCons (eVar 2) (aNil)))) (gNm 2)) (sRet (eFn 4 (F_levels_along K) (aCons (eVar 0) (aCons (eVar 1) (aCons (eVar 2) (aCons (eVar 3) (aNil))))))))
def F_fine_states (K : PySem.W.Frag) : Fn := fnD N_fine_states (m_fine_states K)
theorem S_fine_states : FnScope N_fine_states ["web", "top", "start", "run"] (defScope s_fine_states) := ⟨rfl, rfl, rfl, by decide +kernel, rfl, by decide +kernel, by decide +kernel⟩
theorem b_fine_states {G : Pr} {T : Tb} {qual : Str} {f0 : Addr} {cdv : Value} {E : XK} (H : HyP G) (hA : AOk G.K (cf G.K)) (ok_as_state : FG G T 4 (He.ga G.K "as_state") 2 (F_as_state G.K)) (ok_check_top : FG G T 2 (He.ga G.K "check_top") 2 (F_check_top G.K)) (ok_levels_along : FG G T 7 (He.ga G.K "levels_along") 4 (F_levels_along G.K)) : SSs (DefF G N_fine_states qual (defScope s_fine_states) f0 cdv 7 E) T (WD E) (defBody s_fine_states) (m_fine_states G.K) := by
  have hG := def_fm (G := G) (qual := qual) (f := f0) (cdv := cdv) (k := 7) (E := E) S_fine_states
  have hO := def_own (G := G) (N := N_fine_states) (qual := qual) (scope := defScope s_fine_states) (f := f0) (cdv := cdv) (k := 7) (E := E)
  exact sss_cons (ss_expr rfl (se_fn hG ok_check_top (by decide) rfl (H.glo _ rfl).1 (H.glo _ rfl).2 rfl rfl (sa_cons rfl (se_var hG (i := 1) rfl rfl (by decide) (by decide)) (sa_cons rfl (se_int) (sa_nil))) (by decide))) (sss_cons (ss_set (i := 2) hG rfl rfl rfl (se_fn hG ok_as_state (by decide) rfl (H.glo _ rfl).1 (H.glo _ rfl).2 rfl rfl (sa_cons rfl (se_fld hG hA (se_var hG (i := 0) rfl rfl (by decide) (by decide)) (fun _ _ => rfl)) (sa_cons rfl (se_var hG (i := 2) rfl rfl (by decide) (by decide)) (sa_nil))) (by decide))) (sss_one (ss_ret (se_fn hG ok_levels_along (by decide) rfl (H.glo _ rfl).1 (H.glo _ rfl).2 rfl rfl (sa_cons rfl (se_var hG (i := 0) rfl rfl (by decide) (by decide)) (sa_cons rfl (se_var hG (i := 1) rfl rfl (by decide) (by decide)) (sa_cons rfl (se_var hG (i := 2) rfl rfl (by decide) (by decide)) (sa_cons rfl (se_var hG (i := 3) rfl rfl (by decide) (by decide)) (sa_nil))))) (by decide)))))
def N__law_integers : List Str := ["_law_actual", "_law_count", "_law_number"]
def m__law_integers (K : PySem.W.Frag) : Sl → LH → RS := sSeq (sIf (bOr (bNot (bTru (eCall isiD (aCons (eVar 0) (aCons (eK (.ty "tuple")) (aNil)))))) (bVal (eOp neD (eCall lenD (aCons (eVar 0) (aNil))) (eVar 1)))) (sRet (eK (.bl false))) (sNx)) (sRet (eNotT (eLc (iSrc (eVar 0)) (gNm 2) (bOr (bTru (eCall isiD (aCons (eVar 2) (aCons (eK (.ty "bool")) (aNil))))) (bNot (bTru (eCall isiD (aCons (eVar 2) (aCons (eK (.ty "int")) (aNil))))))) (eVar 2) [2])))
def F__law_integers (K : PySem.W.Frag) : Fn := fnD N__law_integers (m__law_integers K)
theorem S__law_integers : FnScope N__law_integers ["_law_actual", "_law_count"] (defScope s_law_integers) := ⟨rfl, rfl, rfl, by decide +kernel, rfl, by decide +kernel, by decide +kernel⟩
theorem b__law_integers {G : Pr} {T : Tb} {qual : Str} {f0 : Addr} {cdv : Value} {E : XK} (H : HyP G) (hA : AOk G.K (cf G.K))  : SSs (DefF G N__law_integers qual (defScope s_law_integers) f0 cdv 1 E) T (WD E) (defBody s_law_integers) (m__law_integers G.K) := by
  have hG := def_fm (G := G) (qual := qual) (f := f0) (cdv := cdv) (k := 1) (E := E) S__law_integers
  have hO := def_own (G := G) (N := N__law_integers) (qual := qual) (scope := defScope s_law_integers) (f := f0) (cdv := cdv) (k := 1) (E := E)
  exact sss_cons (ss_if (sb_sw (sw_or (sb_not (sb_tru (fun _ _ => rfl) hG (se_callB hG (c_isi hG) (cas_isi H.kit) rfl (H.free _ rfl) (by decide +kernel) rfl rfl (sa_cons rfl (se_var hG (i := 0) rfl rfl (by decide) (by decide)) (sa_cons rfl (se_ty hG rfl (H.free _ rfl) (by decide +kernel) (by decide) (by decide)) (sa_nil))) (by decide) (by decide)))) (sw_or1 (sb_cmp (o_ne hG) ops_neD (se_callB hG (c_len hG) cas_len rfl (H.free _ rfl) (by decide +kernel) rfl rfl (sa_cons rfl (se_var hG (i := 0) rfl rfl (by decide) (by decide)) (sa_nil)) (by decide) (by decide)) (se_var hG (i := 1) rfl rfl (by decide) (by decide)) (by with_unfolding_all rfl))))) (sss_one (ss_ret (se_bl))) (sss_nil)) (sss_one (ss_ret (se_notT hG (se_lc (own := [("_law_number", 2)]) hG (blkOk_by (by decide +kernel)) (si_seq hG (se_var hG (i := 0) rfl rfl (by decide) (by decide))) rfl (sg_name (blk_fm hG) (i := 2) rfl rfl) (by decide) (sf_one (sb_sw (sw_or (sb_tru (fun _ _ => rfl) (blk_fm hG) (se_callB (blk_fm hG) (c_isi (blk_fm hG)) (cas_isi H.kit) rfl (H.free _ rfl) (by decide +kernel) rfl rfl (sa_cons rfl (se_var (blk_fm hG) (i := 2) rfl rfl (by decide) (by decide)) (sa_cons rfl (se_ty (blk_fm hG) rfl (H.free _ rfl) (by decide +kernel) (by decide) (by decide)) (sa_nil))) (by decide) (by decide))) (sw_or1 (sb_not (sb_tru (fun _ _ => rfl) (blk_fm hG) (se_callB (blk_fm hG) (c_isi (blk_fm hG)) (cas_isi H.kit) rfl (H.free _ rfl) (by decide +kernel) rfl rfl (sa_cons rfl (se_var (blk_fm hG) (i := 2) rfl rfl (by decide) (by decide)) (sa_cons rfl (se_ty (blk_fm hG) rfl (H.free _ rfl) (by decide +kernel) (by decide) (by decide)) (sa_nil))) (by decide) (by decide)))))))) (se_var (blk_fm hG) (i := 2) rfl rfl (by decide) (by decide))))))
def N__law_walk_is : List Str := ["_law_web", "_law_top", "_law_start", "_law_run_here", "_law_walked", "_law_actual", "_law_k"]
def m__law_walk_is (K : PySem.W.Frag) : Sl → LH → RS := sSeq (sTry (sAsg (eFn 4 (F_fine_states K) (aCons (eVar 0) (aCons (eVar 1) (aCons (eVar 2) (aCons (eVar 3) (aNil)))))) (gNm 5))) (sSeq (sIf (bOr (bNot (bTru (eCall isiD (aCons (eVar 5) (aCons (eK (.ty "tuple")) (aNil)))))) (bVal (eOp neD (eCall lenD (aCons (eVar 5) (aNil))) (eCall lenD (aCons (eVar 4) (aNil)))))) (sRet (eK (.bl false))) (sNx)) (sSeq (sFor (iArg rng1D (aCons (eCall lenD (aCons (eVar 4) (aNil))) (aNil))) (gNm 6) (sIf (bOr (bNot (bTru (eFn 2 (F__law_integers K) (aCons (eOp ixD (eVar 5) (eVar 6)) (aCons (eCall lenD (aCons (eVar 2) (aNil))) (aNil)))))) (bVal (eOp neD (eOp ixD (eVar 5) (eVar 6)) (eOp ixD (eVar 4) (eVar 6))))) (sRet (eK (.bl false))) (sNx))) (sRet (eK (.bl true)))))
def F__law_walk_is (K : PySem.W.Frag) : Fn := fnD N__law_walk_is (m__law_walk_is K)
theorem S__law_walk_is : FnScope N__law_walk_is ["_law_web", "_law_top", "_law_start", "_law_run_here", "_law_walked"] (defScope s_law_walk_is) := ⟨rfl, rfl, rfl, by decide +kernel, rfl, by decide +kernel, by decide +kernel⟩
theorem b__law_walk_is {G : Pr} {T : Tb} {qual : Str} {f0 : Addr} {cdv : Value} {E : XK} (H : HyP G) (hA : AOk G.K (cf G.K)) (ok__law_integers : FG G T 2 (He.ga G.K "_law_integers") 2 (F__law_integers G.K)) (ok_fine_states : FG G T 8 (He.ga G.K "fine_states") 4 (F_fine_states G.K)) : SSs (DefF G N__law_walk_is qual (defScope s_law_walk_is) f0 cdv 8 E) T (WD E) (defBody s_law_walk_is) (m__law_walk_is G.K) := by
  have hG := def_fm (G := G) (qual := qual) (f := f0) (cdv := cdv) (k := 8) (E := E) S__law_walk_is
  have hO := def_own (G := G) (N := N__law_walk_is) (qual := qual) (scope := defScope s_law_walk_is) (f := f0) (cdv := cdv) (k := 8) (E := E)
  exact sss_cons (ss_try (sss_one (ss_set (i := 5) (nox_fm hG) rfl rfl rfl (se_fn (nox_fm hG) ok_fine_states (by decide) rfl (H.glo _ rfl).1 (H.glo _ rfl).2 rfl rfl (sa_cons rfl (se_var (nox_fm hG) (i := 0) rfl rfl (by decide) (by decide)) (sa_cons rfl (se_var (nox_fm hG) (i := 1) rfl rfl (by decide) (by decide)) (sa_cons rfl (se_var (nox_fm hG) (i := 2) rfl rfl (by decide) (by decide)) (sa_cons rfl (se_var (nox_fm hG) (i := 3) rfl rfl (by decide) (by decide)) (sa_nil))))) (by decide))))) (sss_cons (ss_if (sb_sw (sw_or (sb_not (sb_tru (fun _ _ => rfl) hG (se_callB hG (c_isi hG) (cas_isi H.kit) rfl (H.free _ rfl) (by decide +kernel) rfl rfl (sa_cons rfl (se_var hG (i := 5) rfl rfl (by decide) (by decide)) (sa_cons rfl (se_ty hG rfl (H.free _ rfl) (by decide +kernel) (by decide) (by decide)) (sa_nil))) (by decide) (by decide)))) (sw_or1 (sb_cmp (o_ne hG) ops_neD (se_callB hG (c_len hG) cas_len rfl (H.free _ rfl) (by decide +kernel) rfl rfl (sa_cons rfl (se_var hG (i := 5) rfl rfl (by decide) (by decide)) (sa_nil)) (by decide) (by decide)) (se_callB hG (c_len hG) cas_len rfl (H.free _ rfl) (by decide +kernel) rfl rfl (sa_cons rfl (se_var hG (i := 4) rfl rfl (by decide) (by decide)) (sa_nil)) (by decide) (by decide)) (by with_unfolding_all rfl))))) (sss_one (ss_ret (se_bl))) (sss_nil)) (sss_cons (ss_for hG hO (si_rng1 hG rfl (H.free _ rfl) rfl (sa_cons rfl (se_callB hG (c_len hG) cas_len rfl (H.free _ rfl) (by decide +kernel) rfl rfl (sa_cons rfl (se_var hG (i := 4) rfl rfl (by decide) (by decide)) (sa_nil)) (by decide) (by decide)) (sa_nil))) rfl (sg_name hG (i := 6) rfl rfl) (sss_one (ss_if (sb_sw (sw_or (sb_not (sb_tru (fun _ _ => rfl) hG (se_fn hG ok__law_integers (by decide) rfl (H.glo _ rfl).1 (H.glo _ rfl).2 rfl rfl (sa_cons rfl (se_ix hG rfl (se_var hG (i := 5) rfl rfl (by decide) (by decide)) (se_var hG (i := 6) rfl rfl (by decide) (by decide))) (sa_cons rfl (se_callB hG (c_len hG) cas_len rfl (H.free _ rfl) (by decide +kernel) rfl rfl (sa_cons rfl (se_var hG (i := 2) rfl rfl (by decide) (by decide)) (sa_nil)) (by decide) (by decide)) (sa_nil))) (by decide)))) (sw_or1 (sb_cmp (o_ne hG) ops_neD (se_ix hG rfl (se_var hG (i := 5) rfl rfl (by decide) (by decide)) (se_var hG (i := 6) rfl rfl (by decide) (by decide))) (se_ix hG rfl (se_var hG (i := 4) rfl rfl (by decide) (by decide)) (se_var hG (i := 6) rfl rfl (by decide) (by decide))) (by with_unfolding_all rfl))))) (sss_one (ss_ret (se_bl))) (sss_nil)))) (sss_one (ss_ret (se_bl)))))
def N_as_any_state : List Str := ["row"]
def m_as_any_state (K : PySem.W.Frag) : Sl → LH → RS := sSeq (sIf (bNot (bTru (eFn 1 (F_is_size K) (aCons (eCall lenD (aCons (eVar 0) (aNil))) (aNil))))) (sBad) (sNx)) (sRet (eFn 2 (F_as_state K) (aCons (eCall lenD (aCons (eVar 0) (aNil))) (aCons (eVar 0) (aNil)))))
def F_as_any_state (K : PySem.W.Frag) : Fn := fnD N_as_any_state (m_as_any_state K)
theorem S_as_any_state : FnScope N_as_any_state ["row"] (defScope s_as_any_state) := ⟨rfl, rfl, rfl, by decide +kernel, rfl, by decide +kernel, by decide +kernel⟩
theorem b_as_any_state {G : Pr} {T : Tb} {qual : Str} {f0 : Addr} {cdv : Value} {E : XK} (H : HyP G) (hA : AOk G.K (cf G.K)) (ok_as_state : FG G T 4 (He.ga G.K "as_state") 2 (F_as_state G.K)) (ok_is_size : FG G T 2 (He.ga G.K "is_size") 1 (F_is_size G.K)) : SSs (DefF G N_as_any_state qual (defScope s_as_any_state) f0 cdv 4 E) T (WD E) (defBody s_as_any_state) (m_as_any_state G.K) := by
  have hG := def_fm (G := G) (qual := qual) (f := f0) (cdv := cdv) (k := 4) (E := E) S_as_any_state
  have hO := def_own (G := G) (N := N_as_any_state) (qual := qual) (scope := defScope s_as_any_state) (f := f0) (cdv := cdv) (k := 4) (E := E)
  exact sss_cons (ss_if (sb_not (sb_tru (fun _ _ => rfl) hG (se_fn hG ok_is_size (by decide) rfl (H.glo _ rfl).1 (H.glo _ rfl).2 rfl rfl (sa_cons rfl (se_callB hG (c_len hG) cas_len rfl (H.free _ rfl) (by decide +kernel) rfl rfl (sa_cons rfl (se_var hG (i := 0) rfl rfl (by decide) (by decide)) (sa_nil)) (by decide) (by decide)) (sa_nil)) (by decide)))) (sss_bad) (sss_nil)) (sss_one (ss_ret (se_fn hG ok_as_state (by decide) rfl (H.glo _ rfl).1 (H.glo _ rfl).2 rfl rfl (sa_cons rfl (se_callB hG (c_len hG) cas_len rfl (H.free _ rfl) (by decide +kernel) rfl rfl (sa_cons rfl (se_var hG (i := 0) rfl rfl (by decide) (by decide)) (sa_nil)) (by decide) (by decide)) (sa_cons rfl (se_var hG (i := 0) rfl rfl (by decide) (by decide)) (sa_nil))) (by decide))))
def N_corner : List Str := ["top", "state"]
def m_corner (K : PySem.W.Frag) : Sl → LH → RS := sSeq (sDrop (eFn 2 (F_check_top K) (aCons (eVar 0) (aCons (eK (.int 1)) (aNil))))) (sRet (eFn 2 (F_corner_of K) (aCons (eVar 0) (aCons (eFn 1 (F_as_any_state K) (aCons (eVar 1) (aNil))) (aNil)))))
def F_corner (K : PySem.W.Frag) : Fn := fnD N_corner (m_corner K)
theorem S_corner : FnScope N_corner ["top", "state"] (defScope s_corner) := ⟨rfl, rfl, rfl, by decide +kernel, rfl, by decide +kernel, by decide +kernel⟩
theorem b_corner {G : Pr} {T : Tb} {qual : Str} {f0 : Addr} {cdv : Value} {E : XK} (H : HyP G) (hA : AOk G.K (cf G.K)) (ok_as_any_state : FG G T 5 (He.ga G.K "as_any_state") 1 (F_as_any_state G.K)) (ok_check_top : FG G T 2 (He.ga G.K "check_top") 2 (F_check_top G.K)) (ok_corner_of : FG G T 2 (He.ga G.K "corner_of") 2 (F_corner_of G.K)) : SSs (DefF G N_corner qual (defScope s_corner) f0 cdv 5 E) T (WD E) (defBody s_corner) (m_corner G.K) := by
  have hG := def_fm (G := G) (qual := qual) (f := f0) (cdv := cdv) (k := 5) (E := E) S_corner
  have hO := def_own (G := G) (N := N_corner) (qual := qual) (scope := defScope s_corner) (f := f0) (cdv := cdv) (k := 5) (E := E)
  exact sss_cons (ss_expr rfl (se_fn hG ok_check_top (by decide) rfl (H.glo _ rfl).1 (H.glo _ rfl).2 rfl rfl (sa_cons rfl (se_var hG (i := 0) rfl rfl (by decide) (by decide)) (sa_cons rfl (se_int) (sa_nil))) (by decide))) (sss_one (ss_ret (se_fn hG ok_corner_of (by decide) rfl (H.glo _ rfl).1 (H.glo _ rfl).2 rfl rfl (sa_cons rfl (se_var hG (i := 0) rfl rfl (by decide) (by decide)) (sa_cons rfl (se_fn hG ok_as_any_state (by decide) rfl (H.glo _ rfl).1 (H.glo _ rfl).2 rfl rfl (sa_cons rfl (se_var hG (i := 1) rfl rfl (by decide) (by decide)) (sa_nil)) (by decide)) (sa_nil))) (by decide))))
def N_as_any_levels : List Str := ["top", "row"]
def m_as_any_levels (K : PySem.W.Frag) : Sl → LH → RS := sSeq (sIf (bOr (bNot (bTru (eFn 1 (F_is_size K) (aCons (eCall lenD (aCons (eVar 1) (aNil))) (aNil))))) (bNot (bTru (eAg true (iSrc (eVar 1)) (gNm 0) (eChain leD leD (eK (.int 0)) (eVar 0) (eVar 1)) [none, some 0])))) (sBad) (sNx)) (sRet (eCall tupleD (aCons (eVar 1) (aNil))))
def F_as_any_levels (K : PySem.W.Frag) : Fn := fnD N_as_any_levels (m_as_any_levels K)
theorem S_as_any_levels : FnScope N_as_any_levels ["top", "row"] (defScope s_as_any_levels) := ⟨rfl, rfl, rfl, by decide +kernel, rfl, by decide +kernel, by decide +kernel⟩
theorem b_as_any_levels {G : Pr} {T : Tb} {qual : Str} {f0 : Addr} {cdv : Value} {E : XK} (H : HyP G) (hA : AOk G.K (cf G.K)) (ok_is_size : FG G T 2 (He.ga G.K "is_size") 1 (F_is_size G.K)) {cd P0 : Addr} (hC : ∀ k E, CdOk (DefF G N_as_any_levels qual (defScope s_as_any_levels) f0 cdv k E) G T cd P0) : SSs (DefF G N_as_any_levels qual (defScope s_as_any_levels) f0 cdv 2 E) T (WD E) (defBody s_as_any_levels) (m_as_any_levels G.K) := by
  have hG := def_fm (G := G) (qual := qual) (f := f0) (cdv := cdv) (k := 2) (E := E) S_as_any_levels
  have hO := def_own (G := G) (N := N_as_any_levels) (qual := qual) (scope := defScope s_as_any_levels) (f := f0) (cdv := cdv) (k := 2) (E := E)
  have hC := hC 2 E
  exact sss_cons (ss_if (sb_sw (sw_or (sb_not (sb_tru (fun _ _ => rfl) hG (se_fn hG ok_is_size (by decide) rfl (H.glo _ rfl).1 (H.glo _ rfl).2 rfl rfl (sa_cons rfl (se_callB hG (c_len hG) cas_len rfl (H.free _ rfl) (by decide +kernel) rfl rfl (sa_cons rfl (se_var hG (i := 1) rfl rfl (by decide) (by decide)) (sa_nil)) (by decide) (by decide)) (sa_nil)) (by decide)))) (sw_or1 (sb_not (sb_tru (fun _ _ => rfl) hG (se_all (N' := ["level", "top"]) (capt := [none, some 0]) (j := 1) hG (by decide) hC (gOk_by (by decide +kernel)) rfl (H.free _ rfl) (si_seq hG (se_var hG (i := 1) rfl rfl (by decide) (by decide))) rfl (sgn_name (i := 0) rfl rfl) (by decide) (se_chain (o_le (gen_fm (j := 1) (N' := ["level", "top"]) hG (by decide +kernel))) ops_leD (o_le (gen_fm (j := 1) (N' := ["level", "top"]) hG (by decide +kernel))) ops_leD (se_int) (se_var (gen_fm (j := 1) (N' := ["level", "top"]) hG (by decide +kernel)) (i := 0) rfl rfl (by decide) (by decide)) (se_var (gen_fm (j := 1) (N' := ["level", "top"]) hG (by decide +kernel)) (i := 1) rfl rfl (by decide) (by decide)) (by with_unfolding_all rfl)))))))) (sss_bad) (sss_nil)) (sss_one (ss_ret (se_callT hG (c_tuple hG) cas_tuple rfl (H.free _ rfl) (by decide +kernel) rfl rfl (sa_cons rfl (se_var hG (i := 1) rfl rfl (by decide) (by decide)) (sa_nil)) (by decide) (by decide))))
def N_reading_room : List Str := ["top", "levels"]
def m_reading_room (K : PySem.W.Frag) : Sl → LH → RS := sSeq (sDrop (eFn 2 (F_check_top K) (aCons (eVar 0) (aCons (eK (.int 1)) (aNil))))) (sRet (eFn 2 (F_readable K) (aCons (eVar 0) (aCons (eFn 2 (F_as_any_levels K) (aCons (eVar 0) (aCons (eVar 1) (aNil)))) (aNil)))))
def F_reading_room (K : PySem.W.Frag) : Fn := fnD N_reading_room (m_reading_room K)
theorem S_reading_room : FnScope N_reading_room ["top", "levels"] (defScope s_reading_room) := ⟨rfl, rfl, rfl, by decide +kernel, rfl, by decide +kernel, by decide +kernel⟩
theorem b_reading_room {G : Pr} {T : Tb} {qual : Str} {f0 : Addr} {cdv : Value} {E : XK} (H : HyP G) (hA : AOk G.K (cf G.K)) (ok_as_any_levels : FG G T 3 (He.ga G.K "as_any_levels") 2 (F_as_any_levels G.K)) (ok_check_top : FG G T 2 (He.ga G.K "check_top") 2 (F_check_top G.K)) (ok_readable : FG G T 3 (He.ga G.K "readable") 2 (F_readable G.K)) : SSs (DefF G N_reading_room qual (defScope s_reading_room) f0 cdv 3 E) T (WD E) (defBody s_reading_room) (m_reading_room G.K) := by
  have hG := def_fm (G := G) (qual := qual) (f := f0) (cdv := cdv) (k := 3) (E := E) S_reading_room
  have hO := def_own (G := G) (N := N_reading_room) (qual := qual) (scope := defScope s_reading_room) (f := f0) (cdv := cdv) (k := 3) (E := E)
  exact sss_cons (ss_expr rfl (se_fn hG ok_check_top (by decide) rfl (H.glo _ rfl).1 (H.glo _ rfl).2 rfl rfl (sa_cons rfl (se_var hG (i := 0) rfl rfl (by decide) (by decide)) (sa_cons rfl (se_int) (sa_nil))) (by decide))) (sss_one (ss_ret (se_fn hG ok_readable (by decide) rfl (H.glo _ rfl).1 (H.glo _ rfl).2 rfl rfl (sa_cons rfl (se_var hG (i := 0) rfl rfl (by decide) (by decide)) (sa_cons rfl (se_fn hG ok_as_any_levels (by decide) rfl (H.glo _ rfl).1 (H.glo _ rfl).2 rfl rfl (sa_cons rfl (se_var hG (i := 0) rfl rfl (by decide) (by decide)) (sa_cons rfl (se_var hG (i := 1) rfl rfl (by decide) (by decide)) (sa_nil))) (by decide)) (sa_nil))) (by decide))))
def N_state_at : List Str := ["top", "levels", "room"]
def m_state_at (K : PySem.W.Frag) : Sl → LH → RS := sSeq (sAsg (eFn 2 (F_readable K) (aCons (eVar 0) (aCons (eVar 1) (aNil)))) (gNm 2)) (sSeq (sIf (bVal (eOp (inD false) (eK (.int 2)) (eVar 2))) (sRet (eK .non)) (sNx)) (sRet (eVar 2)))
def F_state_at (K : PySem.W.Frag) : Fn := fnD N_state_at (m_state_at K)
theorem S_state_at : FnScope N_state_at ["top", "levels"] (defScope s_state_at) := ⟨rfl, rfl, rfl, by decide +kernel, rfl, by decide +kernel, by decide +kernel⟩
theorem b_state_at {G : Pr} {T : Tb} {qual : Str} {f0 : Addr} {cdv : Value} {E : XK} (H : HyP G) (hA : AOk G.K (cf G.K)) (ok_readable : FG G T 3 (He.ga G.K "readable") 2 (F_readable G.K)) : SSs (DefF G N_state_at qual (defScope s_state_at) f0 cdv 3 E) T (WD E) (defBody s_state_at) (m_state_at G.K) := by
  have hG := def_fm (G := G) (qual := qual) (f := f0) (cdv := cdv) (k := 3) (E := E) S_state_at
  have hO := def_own (G := G) (N := N_state_at) (qual := qual) (scope := defScope s_state_at) (f := f0) (cdv := cdv) (k := 3) (E := E)
  exact sss_cons (ss_set (i := 2) hG rfl rfl rfl (se_fn hG ok_readable (by decide) rfl (H.glo _ rfl).1 (H.glo _ rfl).2 rfl rfl (sa_cons rfl (se_var hG (i := 0) rfl rfl (by decide) (by decide)) (sa_cons rfl (se_var hG (i := 1) rfl rfl (by decide) (by decide)) (sa_nil))) (by decide))) (sss_cons (ss_if (sb_cmp (o_in hG (by decide)) ops_inA (se_int) (se_var hG (i := 2) rfl rfl (by decide) (by decide)) (by with_unfolding_all rfl)) (sss_one (ss_ret (se_non))) (sss_nil)) (sss_one (ss_ret (se_var hG (i := 2) rfl rfl (by decide) (by decide)))))
def N_corner_state : List Str := ["top", "levels"]
def m_corner_state (K : PySem.W.Frag) : Sl → LH → RS := sSeq (sDrop (eFn 2 (F_check_top K) (aCons (eVar 0) (aCons (eK (.int 1)) (aNil))))) (sRet (eFn 2 (F_state_at K) (aCons (eVar 0) (aCons (eFn 2 (F_as_any_levels K) (aCons (eVar 0) (aCons (eVar 1) (aNil)))) (aNil)))))
def F_corner_state (K : PySem.W.Frag) : Fn := fnD N_corner_state (m_corner_state K)
theorem S_corner_state : FnScope N_corner_state ["top", "levels"] (defScope s_corner_state) := ⟨rfl, rfl, rfl, by decide +kernel, rfl, by decide +kernel, by decide +kernel⟩
theorem b_corner_state {G : Pr} {T : Tb} {qual : Str} {f0 : Addr} {cdv : Value} {E : XK} (H : HyP G) (hA : AOk G.K (cf G.K)) (ok_as_any_levels : FG G T 3 (He.ga G.K "as_any_levels") 2 (F_as_any_levels G.K)) (ok_check_top : FG G T 2 (He.ga G.K "check_top") 2 (F_check_top G.K)) (ok_state_at : FG G T 4 (He.ga G.K "state_at") 2 (F_state_at G.K)) : SSs (DefF G N_corner_state qual (defScope s_corner_state) f0 cdv 4 E) T (WD E) (defBody s_corner_state) (m_corner_state G.K) := by
  have hG := def_fm (G := G) (qual := qual) (f := f0) (cdv := cdv) (k := 4) (E := E) S_corner_state
  have hO := def_own (G := G) (N := N_corner_state) (qual := qual) (scope := defScope s_corner_state) (f := f0) (cdv := cdv) (k := 4) (E := E)
  exact sss_cons (ss_expr rfl (se_fn hG ok_check_top (by decide) rfl (H.glo _ rfl).1 (H.glo _ rfl).2 rfl rfl (sa_cons rfl (se_var hG (i := 0) rfl rfl (by decide) (by decide)) (sa_cons rfl (se_int) (sa_nil))) (by decide))) (sss_one (ss_ret (se_fn hG ok_state_at (by decide) rfl (H.glo _ rfl).1 (H.glo _ rfl).2 rfl rfl (sa_cons rfl (se_var hG (i := 0) rfl rfl (by decide) (by decide)) (sa_cons rfl (se_fn hG ok_as_any_levels (by decide) rfl (H.glo _ rfl).1 (H.glo _ rfl).2 rfl rfl (sa_cons rfl (se_var hG (i := 0) rfl rfl (by decide) (by decide)) (sa_cons rfl (se_var hG (i := 1) rfl rfl (by decide) (by decide)) (sa_nil))) (by decide)) (sa_nil))) (by decide))))
def N__law_rooms_are : List Str := ["_law_top", "_law_levels", "_law_marks", "_law_level", "_law_actual", "_law_state", "_law_back"]
def m__law_rooms_are (K : PySem.W.Frag) : Sl → LH → RS := sSeq (sAsg (eCall tupleD (aCons (eLc (iSrc (eVar 1)) (gNm 3) (bYes) (eFn 2 (F__law_mark K) (aCons (eVar 0) (aCons (eVar 3) (aNil)))) [3]) (aNil))) (gNm 2)) (sSeq (sAsg (eFn 2 (F_reading_room K) (aCons (eVar 0) (aCons (eCall listD (aCons (eVar 1) (aNil))) (aNil)))) (gNm 4)) (sSeq (sIf (bOr (bNot (bTru (eFn 2 (F__law_integers K) (aCons (eVar 4) (aCons (eCall lenD (aCons (eVar 1) (aNil))) (aNil)))))) (bVal (eOp neD (eVar 4) (eVar 2)))) (sRet (eK (.bl false))) (sNx)) (sSeq (sAsg (eFn 2 (F_corner_state K) (aCons (eVar 0) (aCons (eCall listD (aCons (eVar 1) (aNil))) (aNil)))) (gNm 5)) (sSeq (sIf (bVal (eOp (inD false) (eK (.int 2)) (eVar 2))) (sRet (eOp (isD false) (eVar 5) (eK .non))) (sNx)) (sSeq (sIf (bOr (bNot (bTru (eFn 2 (F__law_integers K) (aCons (eVar 5) (aCons (eCall lenD (aCons (eVar 1) (aNil))) (aNil)))))) (bVal (eOp neD (eVar 5) (eVar 2)))) (sRet (eK (.bl false))) (sNx)) (sSeq (sAsg (eFn 2 (F_corner K) (aCons (eVar 0) (aCons (eCall listD (aCons (eVar 2) (aNil))) (aNil)))) (gNm 6)) (sRet (eAnd (eFn 2 (F__law_integers K) (aCons (eVar 6) (aCons (eCall lenD (aCons (eVar 1) (aNil))) (aNil)))) (eOp eqD (eVar 6) (eCall tupleD (aCons (eVar 1) (aNil))))))))))))
def F__law_rooms_are (K : PySem.W.Frag) : Fn := fnD N__law_rooms_are (m__law_rooms_are K)
theorem S__law_rooms_are : FnScope N__law_rooms_are ["_law_top", "_law_levels"] (defScope s_law_rooms_are) := ⟨rfl, rfl, rfl, by decide +kernel, rfl, by decide +kernel, by decide +kernel⟩
theorem b__law_rooms_are {G : Pr} {T : Tb} {qual : Str} {f0 : Addr} {cdv : Value} {E : XK} (H : HyP G) (hA : AOk G.K (cf G.K)) (ok__law_integers : FG G T 2 (He.ga G.K "_law_integers") 2 (F__law_integers G.K)) (ok__law_mark : FG G T 2 (He.ga G.K "_law_mark") 2 (F__law_mark G.K)) (ok_corner : FG G T 6 (He.ga G.K "corner") 2 (F_corner G.K)) (ok_corner_state : FG G T 5 (He.ga G.K "corner_state") 2 (F_corner_state G.K)) (ok_reading_room : FG G T 4 (He.ga G.K "reading_room") 2 (F_reading_room G.K)) : SSs (DefF G N__law_rooms_are qual (defScope s_law_rooms_are) f0 cdv 6 E) T (WD E) (defBody s_law_rooms_are) (m__law_rooms_are G.K) := by
  have hG := def_fm (G := G) (qual := qual) (f := f0) (cdv := cdv) (k := 6) (E := E) S__law_rooms_are
  have hO := def_own (G := G) (N := N__law_rooms_are) (qual := qual) (scope := defScope s_law_rooms_are) (f := f0) (cdv := cdv) (k := 6) (E := E)
  exact sss_cons (ss_set (i := 2) hG rfl rfl rfl (se_callT hG (c_tuple hG) cas_tuple rfl (H.free _ rfl) (by decide +kernel) rfl rfl (sa_cons rfl (se_lc (own := [("_law_level", 3)]) hG (blkOk_by (by decide +kernel)) (si_seq hG (se_var hG (i := 1) rfl rfl (by decide) (by decide))) rfl (sg_name (blk_fm hG) (i := 3) rfl rfl) (by decide) (sf_nil) (se_fn (blk_fm hG) ok__law_mark (by decide) rfl (H.glo _ rfl).1 (H.glo _ rfl).2 rfl rfl (sa_cons rfl (se_var (blk_fm hG) (i := 0) rfl rfl (by decide) (by decide)) (sa_cons rfl (se_var (blk_fm hG) (i := 3) rfl rfl (by decide) (by decide)) (sa_nil))) (by decide))) (sa_nil)) (by decide) (by decide))) (sss_cons (ss_set (i := 4) hG rfl rfl rfl (se_fn hG ok_reading_room (by decide) rfl (H.glo _ rfl).1 (H.glo _ rfl).2 rfl rfl (sa_cons rfl (se_var hG (i := 0) rfl rfl (by decide) (by decide)) (sa_cons rfl (se_callT hG (c_list hG) cas_list rfl (H.free _ rfl) (by decide +kernel) rfl rfl (sa_cons rfl (se_var hG (i := 1) rfl rfl (by decide) (by decide)) (sa_nil)) (by decide) (by decide)) (sa_nil))) (by decide))) (sss_cons (ss_if (sb_sw (sw_or (sb_not (sb_tru (fun _ _ => rfl) hG (se_fn hG ok__law_integers (by decide) rfl (H.glo _ rfl).1 (H.glo _ rfl).2 rfl rfl (sa_cons rfl (se_var hG (i := 4) rfl rfl (by decide) (by decide)) (sa_cons rfl (se_callB hG (c_len hG) cas_len rfl (H.free _ rfl) (by decide +kernel) rfl rfl (sa_cons rfl (se_var hG (i := 1) rfl rfl (by decide) (by decide)) (sa_nil)) (by decide) (by decide)) (sa_nil))) (by decide)))) (sw_or1 (sb_cmp (o_ne hG) ops_neD (se_var hG (i := 4) rfl rfl (by decide) (by decide)) (se_var hG (i := 2) rfl rfl (by decide) (by decide)) (by with_unfolding_all rfl))))) (sss_one (ss_ret (se_bl))) (sss_nil)) (sss_cons (ss_set (i := 5) hG rfl rfl rfl (se_fn hG ok_corner_state (by decide) rfl (H.glo _ rfl).1 (H.glo _ rfl).2 rfl rfl (sa_cons rfl (se_var hG (i := 0) rfl rfl (by decide) (by decide)) (sa_cons rfl (se_callT hG (c_list hG) cas_list rfl (H.free _ rfl) (by decide +kernel) rfl rfl (sa_cons rfl (se_var hG (i := 1) rfl rfl (by decide) (by decide)) (sa_nil)) (by decide) (by decide)) (sa_nil))) (by decide))) (sss_cons (ss_if (sb_cmp (o_in hG (by decide)) ops_inA (se_int) (se_var hG (i := 2) rfl rfl (by decide) (by decide)) (by with_unfolding_all rfl)) (sss_one (ss_ret (se_cmp (o_is hG) ops_isD (se_var hG (i := 5) rfl rfl (by decide) (by decide)) (se_non) (by with_unfolding_all rfl)))) (sss_nil)) (sss_cons (ss_if (sb_sw (sw_or (sb_not (sb_tru (fun _ _ => rfl) hG (se_fn hG ok__law_integers (by decide) rfl (H.glo _ rfl).1 (H.glo _ rfl).2 rfl rfl (sa_cons rfl (se_var hG (i := 5) rfl rfl (by decide) (by decide)) (sa_cons rfl (se_callB hG (c_len hG) cas_len rfl (H.free _ rfl) (by decide +kernel) rfl rfl (sa_cons rfl (se_var hG (i := 1) rfl rfl (by decide) (by decide)) (sa_nil)) (by decide) (by decide)) (sa_nil))) (by decide)))) (sw_or1 (sb_cmp (o_ne hG) ops_neD (se_var hG (i := 5) rfl rfl (by decide) (by decide)) (se_var hG (i := 2) rfl rfl (by decide) (by decide)) (by with_unfolding_all rfl))))) (sss_one (ss_ret (se_bl))) (sss_nil)) (sss_cons (ss_set (i := 6) hG rfl rfl rfl (se_fn hG ok_corner (by decide) rfl (H.glo _ rfl).1 (H.glo _ rfl).2 rfl rfl (sa_cons rfl (se_var hG (i := 0) rfl rfl (by decide) (by decide)) (sa_cons rfl (se_callT hG (c_list hG) cas_list rfl (H.free _ rfl) (by decide +kernel) rfl rfl (sa_cons rfl (se_var hG (i := 2) rfl rfl (by decide) (by decide)) (sa_nil)) (by decide) (by decide)) (sa_nil))) (by decide))) (sss_one (ss_ret (se_and (se_fn hG ok__law_integers (by decide) rfl (H.glo _ rfl).1 (H.glo _ rfl).2 rfl rfl (sa_cons rfl (se_var hG (i := 6) rfl rfl (by decide) (by decide)) (sa_cons rfl (se_callB hG (c_len hG) cas_len rfl (H.free _ rfl) (by decide +kernel) rfl rfl (sa_cons rfl (se_var hG (i := 1) rfl rfl (by decide) (by decide)) (sa_nil)) (by decide) (by decide)) (sa_nil))) (by decide)) (se_one (se_cmp (o_eq hG) ops_eqD (se_var hG (i := 6) rfl rfl (by decide) (by decide)) (se_callT hG (c_tuple hG) cas_tuple rfl (H.free _ rfl) (by decide +kernel) rfl rfl (sa_cons rfl (se_var hG (i := 1) rfl rfl (by decide) (by decide)) (sa_nil)) (by decide) (by decide)) (by with_unfolding_all rfl))))))))))))
def N_law : List Str := ["_law_script", "_law_size", "_law_draws_here", "_law_top", "_law_rows", "_law_house", "_law_start", "_law_count", "_law_run_here", "_law_walked", "_law_web", "_law_row", "_law_handed", "_law_beat_here", "_law_move", "_law_levels"]
def m_law (K : PySem.W.Frag) : Sl → LH → RS := sSeq (sAsg (eOp addD (eK (.int 1)) (eOp modD (eCall intCD (aCons (eFn 2 (F__law_cell K) (aCons (eVar 0) (aCons (eK (.int 0)) (aNil)))) (aNil))) (eK (.int 12)))) (gNm 1)) (sSeq (sAsg (eFn 2 (F__law_draws K) (aCons (eFn 2 (F__law_cell K) (aCons (eVar 0) (aCons (eK (.int 1)) (aNil)))) (aCons (eLst (aCons (eK (.int 8)) (aCons (eK (.int 7)) (aCons (eK (.int 8)) (aCons (eK (.int 14)) (aCons (eK (.int 40)) (aNil))))))) (aNil)))) (gNm 2)) (sSeq (sAsg (eOp addD (eK (.int 1)) (eOp ixD (eVar 2) (eK (.int 1)))) (gNm 3)) (sSeq (sIf (bVal (eOp eqD (eOp ixD (eVar 2) (eK (.int 0))) (eK (.int 0)))) (sAsg (eOp addD (eK (.int 1)) (eOp modD (eCall intCD (aCons (eFn 2 (F__law_cell K) (aCons (eVar 0) (aCons (eK (.int 2)) (aNil)))) (aNil))) (eOp powD (eK (.int 10)) (eK (.int 30))))) (gNm 3)) (sNx)) (sSeq (sAsg (eLc (iArg rng1D (aCons (eVar 1) (aNil))) (gNm 5) (bYes) (eFn 4 (F__law_table K) (aCons (eFn 2 (F__law_cell K) (aCons (eVar 0) (aCons (eOp addD (eK (.int 4)) (eVar 5)) (aNil)))) (aCons (eVar 1) (aCons (eVar 5) (aCons (eK (.int 4)) (aNil)))))) [5]) (gNm 4)) (sSeq (sAsg (eFn 2 (F__law_draws K) (aCons (eFn 2 (F__law_cell K) (aCons (eVar 0) (aCons (eK (.int 3)) (aNil)))) (aCons (eOp mulD (eLst (aCons (eK (.int 2)) (aNil))) (eVar 1)) (aNil)))) (gNm 6)) (sSeq (sAsg (eIf (bVal (eOp eqD (eOp ixD (eVar 2) (eK (.int 2))) (eK (.int 0)))) (eOp ixD (eVar 2) (eK (.int 4))) (eOp ixD (eVar 2) (eK (.int 3)))) (gNm 7)) (sSeq (sAsg (eFn 5 (F__law_run K) (aCons (eVar 4) (aCons (eVar 3) (aCons (eVar 6) (aCons (eVar 0) (aCons (eVar 7) (aNil))))))) (gTp 2 (gCon (gNm 8) (gCon (gNm 9) (gNil'))))) (sSeq (sAsg (eMk (He.ga K "Web") 2 (F_Web_init K) (aCons (eLc (iSrc (eVar 4)) (gNm 11) (bYes) (eFn 1 (F__law_lists K) (aCons (eVar 11) (aNil))) [11]) (aNil))) (gNm 10)) (sSeq (sAsg (eFn 1 (F__law_run_lists K) (aCons (eVar 8) (aNil))) (gNm 12)) (sSeq (sIf (bOr (bNot (bTru (eFn 5 (F__law_walk_is K) (aCons (eVar 10) (aCons (eVar 3) (aCons (eCall listD (aCons (eVar 6) (aNil))) (aCons (eVar 12) (aCons (eVar 9) (aNil))))))))) (bVal (eOp neD (eVar 12) (eFn 1 (F__law_run_lists K) (aCons (eVar 8) (aNil)))))) (sRet (eK (.bl false))) (sNx)) (sSeq (sFor (iSrc (eVar 12)) (gNm 13) (sSeq (sFor (iSrc (eVar 13)) (gNm 14) (sDrop (eBm isL appendD (eOp ixD (eVar 14) (eK (.int 2))) (aCons (eK (.int 0)) (aNil))))) (sDrop (eBm isL appendD (eVar 13) (aCons (eLst (aCons (eK (.int 0)) (aCons (eK (.int 1)) (aCons (eLst (aNil)) (aNil))))) (aNil)))))) (sSeq (sIf (bNot (bTru (eFn 5 (F__law_walk_is K) (aCons (eVar 10) (aCons (eVar 3) (aCons (eCall tupleD (aCons (eVar 6) (aNil))) (aCons (eCall tupleD (aCons (eLc (iSrc (eVar 8)) (gNm 13) (bYes) (eCall tupleD (aCons (eVar 13) (aNil))) [13]) (aNil))) (aCons (eVar 9) (aNil))))))))) (sRet (eK (.bl false))) (sNx)) (sSeq (sIf (bNot (bTru (eFn 5 (F__law_walk_is K) (aCons (eVar 10) (aCons (eVar 3) (aCons (eVar 6) (aCons (eSl (eVar 8) (oNone) (oSome (eUn negD (eK (.int 1))))) (aCons (eSl (eVar 9) (oNone) (oSome (eCall max2D (aCons (eK (.int 1)) (aCons (eVar 7) (aNil)))))) (aNil))))))))) (sRet (eK (.bl false))) (sNx)) (sSeq (sIf (bNot (bTru (eFn 5 (F__law_walk_is K) (aCons (eVar 10) (aCons (eVar 3) (aCons (eVar 6) (aCons (eLst (aNil)) (aCons (eSl (eVar 9) (oNone) (oSome (eK (.int 1)))) (aNil))))))))) (sRet (eK (.bl false))) (sNx)) (sSeq (sIf (bOr (bVal (eOp neD (eFn 2 (F_corner K) (aCons (eVar 3) (aCons (eVar 6) (aNil)))) (eOp ixD (eVar 9) (eK (.int 0))))) (bNot (bTru (eFn 2 (F__law_integers K) (aCons (eFn 2 (F_corner K) (aCons (eVar 3) (aCons (eVar 6) (aNil)))) (aCons (eVar 1) (aNil))))))) (sRet (eK (.bl false))) (sNx)) (sSeq (sFor (iSrc (eVar 9)) (gNm 15) (sIf (bNot (bTru (eFn 2 (F__law_rooms_are K) (aCons (eVar 3) (aCons (eVar 15) (aNil)))))) (sRet (eK (.bl false))) (sNx))) (sRet (eK (.bl true)))))))))))))))))))
def F_law (K : PySem.W.Frag) : Fn := fnD N_law (m_law K)
theorem S_law : FnScope N_law ["_law_script"] (defScope s_law) := ⟨rfl, rfl, rfl, by decide +kernel, rfl, by decide +kernel, by decide +kernel⟩
theorem b_law {G : Pr} {T : Tb} {qual : Str} {f0 : Addr} {cdv : Value} {E : XK} {fWeb : Addr} (H : HyP G) (hA : AOk G.K (cf G.K)) (Mk_Web : Mk G.K (He.ga G.K "Web") fWeb) (ok_Web_init : FG G T 11 fWeb 2 (F_Web_init G.K)) (ok__law_cell : FG G T 2 (He.ga G.K "_law_cell") 2 (F__law_cell G.K)) (ok__law_draws : FG G T 2 (He.ga G.K "_law_draws") 2 (F__law_draws G.K)) (ok__law_integers : FG G T 2 (He.ga G.K "_law_integers") 2 (F__law_integers G.K)) (ok__law_lists : FG G T 2 (He.ga G.K "_law_lists") 1 (F__law_lists G.K)) (ok__law_rooms_are : FG G T 7 (He.ga G.K "_law_rooms_are") 2 (F__law_rooms_are G.K)) (ok__law_run : FG G T 4 (He.ga G.K "_law_run") 5 (F__law_run G.K)) (ok__law_run_lists : FG G T 2 (He.ga G.K "_law_run_lists") 1 (F__law_run_lists G.K)) (ok__law_table : FG G T 3 (He.ga G.K "_law_table") 4 (F__law_table G.K)) (ok__law_walk_is : FG G T 9 (He.ga G.K "_law_walk_is") 5 (F__law_walk_is G.K)) (ok_corner : FG G T 6 (He.ga G.K "corner") 2 (F_corner G.K)) : SSs (DefF G N_law qual (defScope s_law) f0 cdv 12 E) T (WD E) (defBody s_law) (m_law G.K) := by
  have hG := def_fm (G := G) (qual := qual) (f := f0) (cdv := cdv) (k := 12) (E := E) S_law
  have hO := def_own (G := G) (N := N_law) (qual := qual) (scope := defScope s_law) (f := f0) (cdv := cdv) (k := 12) (E := E)
  exact sss_cons (ss_setC (i := 1) hG rfl rfl def_fn (se_op (o_add hG) ops_addD (se_int) (se_op (o_mod hG) ops_modD (se_callT hG (c_int hG) cas_int rfl (H.free _ rfl) (by decide +kernel) rfl rfl (sa_cons rfl (se_fn hG ok__law_cell (by decide) rfl (H.glo _ rfl).1 (H.glo _ rfl).2 rfl rfl (sa_cons rfl (se_var hG (i := 0) rfl rfl (by decide) (by decide)) (sa_cons rfl (se_int) (sa_nil))) (by decide)) (sa_nil)) (by decide) (by decide)) (se_int))) rfl) (sss_cons (ss_set (i := 2) hG rfl rfl rfl (se_fn hG ok__law_draws (by decide) rfl (H.glo _ rfl).1 (H.glo _ rfl).2 rfl rfl (sa_cons rfl (se_fn hG ok__law_cell (by decide) rfl (H.glo _ rfl).1 (H.glo _ rfl).2 rfl rfl (sa_cons rfl (se_var hG (i := 0) rfl rfl (by decide) (by decide)) (sa_cons rfl (se_int) (sa_nil))) (by decide)) (sa_cons rfl (se_lst (sa_cons rfl (se_int) (sa_cons rfl (se_int) (sa_cons rfl (se_int) (sa_cons rfl (se_int) (sa_cons rfl (se_int) (sa_nil))))))) (sa_nil))) (by decide))) (sss_cons (ss_set (i := 3) hG rfl rfl rfl (se_op (o_add hG) ops_addD (se_int) (se_ix hG rfl (se_var hG (i := 2) rfl rfl (by decide) (by decide)) (se_int)))) (sss_cons (ss_if (sb_cmp (o_eq hG) ops_eqD (se_ix hG rfl (se_var hG (i := 2) rfl rfl (by decide) (by decide)) (se_int)) (se_int) (by with_unfolding_all rfl)) (sss_one (ss_set (i := 3) hG rfl rfl rfl (se_op (o_add hG) ops_addD (se_int) (se_op (o_mod hG) ops_modD (se_callT hG (c_int hG) cas_int rfl (H.free _ rfl) (by decide +kernel) rfl rfl (sa_cons rfl (se_fn hG ok__law_cell (by decide) rfl (H.glo _ rfl).1 (H.glo _ rfl).2 rfl rfl (sa_cons rfl (se_var hG (i := 0) rfl rfl (by decide) (by decide)) (sa_cons rfl (se_int) (sa_nil))) (by decide)) (sa_nil)) (by decide) (by decide)) (se_op (o_pow hG) ops_powD (se_int) (se_int)))))) (sss_nil)) (sss_cons (ss_lc (own := [("_law_house", 5)]) (i := 4) hG (blkOk_by (by decide +kernel)) (si_rng1 hG rfl (H.free _ rfl) rfl (sa_cons rfl (se_var hG (i := 1) rfl rfl (by decide) (by decide)) (sa_nil))) rfl rfl rfl rfl rfl (by decide +kernel) (sg_name (blk_fm hG) (i := 5) rfl rfl) (by decide) (sf_nil) (se_fn (blk_fm hG) ok__law_table (by decide) rfl (H.glo _ rfl).1 (H.glo _ rfl).2 rfl rfl (sa_cons rfl (se_fn (blk_fm hG) ok__law_cell (by decide) rfl (H.glo _ rfl).1 (H.glo _ rfl).2 rfl rfl (sa_cons rfl (se_var (blk_fm hG) (i := 0) rfl rfl (by decide) (by decide)) (sa_cons rfl (se_op (o_add (blk_fm hG)) ops_addD (se_int) (se_var (blk_fm hG) (i := 5) rfl rfl (by decide) (by decide))) (sa_nil))) (by decide)) (sa_cons rfl (se_var (blk_fm hG) (i := 1) rfl rfl (by decide) (by decide)) (sa_cons rfl (se_var (blk_fm hG) (i := 5) rfl rfl (by decide) (by decide)) (sa_cons rfl (se_int) (sa_nil))))) (by decide))) (sss_cons (ss_set (i := 6) hG rfl rfl rfl (se_fn hG ok__law_draws (by decide) rfl (H.glo _ rfl).1 (H.glo _ rfl).2 rfl rfl (sa_cons rfl (se_fn hG ok__law_cell (by decide) rfl (H.glo _ rfl).1 (H.glo _ rfl).2 rfl rfl (sa_cons rfl (se_var hG (i := 0) rfl rfl (by decide) (by decide)) (sa_cons rfl (se_int) (sa_nil))) (by decide)) (sa_cons rfl (se_op (o_mul hG) ops_mulD (se_lst (sa_cons rfl (se_int) (sa_nil))) (se_var hG (i := 1) rfl rfl (by decide) (by decide))) (sa_nil))) (by decide))) (sss_cons (ss_set (i := 7) hG rfl rfl rfl (se_if (sb_cmp (o_eq hG) ops_eqD (se_ix hG rfl (se_var hG (i := 2) rfl rfl (by decide) (by decide)) (se_int)) (se_int) (by with_unfolding_all rfl)) (se_ix hG rfl (se_var hG (i := 2) rfl rfl (by decide) (by decide)) (se_int)) (se_ix hG rfl (se_var hG (i := 2) rfl rfl (by decide) (by decide)) (se_int)))) (sss_cons (ss_tup hG rfl (sgs_cons rfl (sg_name hG (i := 8) rfl rfl) (sgs_cons rfl (sg_name hG (i := 9) rfl rfl) (sgs_nil))) (se_fn hG ok__law_run (by decide) rfl (H.glo _ rfl).1 (H.glo _ rfl).2 rfl rfl (sa_cons rfl (se_var hG (i := 4) rfl rfl (by decide) (by decide)) (sa_cons rfl (se_var hG (i := 3) rfl rfl (by decide) (by decide)) (sa_cons rfl (se_var hG (i := 6) rfl rfl (by decide) (by decide)) (sa_cons rfl (se_var hG (i := 0) rfl rfl (by decide) (by decide)) (sa_cons rfl (se_var hG (i := 7) rfl rfl (by decide) (by decide)) (sa_nil)))))) (by decide)) (fun _ _ => rfl) (fun _ _ => rfl)) (sss_cons (ss_set (i := 10) hG rfl rfl rfl (se_mk hG Mk_Web ok_Web_init (by decide) rfl (H.glo _ rfl).1 rfl rfl (sa_cons rfl (se_lc (own := [("_law_row", 11)]) hG (blkOk_by (by decide +kernel)) (si_seq hG (se_var hG (i := 4) rfl rfl (by decide) (by decide))) rfl (sg_name (blk_fm hG) (i := 11) rfl rfl) (by decide) (sf_nil) (se_fn (blk_fm hG) ok__law_lists (by decide) rfl (H.glo _ rfl).1 (H.glo _ rfl).2 rfl rfl (sa_cons rfl (se_var (blk_fm hG) (i := 11) rfl rfl (by decide) (by decide)) (sa_nil)) (by decide))) (sa_nil)) (by decide))) (sss_cons (ss_set (i := 12) hG rfl rfl rfl (se_fn hG ok__law_run_lists (by decide) rfl (H.glo _ rfl).1 (H.glo _ rfl).2 rfl rfl (sa_cons rfl (se_var hG (i := 8) rfl rfl (by decide) (by decide)) (sa_nil)) (by decide))) (sss_cons (ss_if (sb_sw (sw_or (sb_not (sb_tru (fun _ _ => rfl) hG (se_fn hG ok__law_walk_is (by decide) rfl (H.glo _ rfl).1 (H.glo _ rfl).2 rfl rfl (sa_cons rfl (se_var hG (i := 10) rfl rfl (by decide) (by decide)) (sa_cons rfl (se_var hG (i := 3) rfl rfl (by decide) (by decide)) (sa_cons rfl (se_callT hG (c_list hG) cas_list rfl (H.free _ rfl) (by decide +kernel) rfl rfl (sa_cons rfl (se_var hG (i := 6) rfl rfl (by decide) (by decide)) (sa_nil)) (by decide) (by decide)) (sa_cons rfl (se_var hG (i := 12) rfl rfl (by decide) (by decide)) (sa_cons rfl (se_var hG (i := 9) rfl rfl (by decide) (by decide)) (sa_nil)))))) (by decide)))) (sw_or1 (sb_cmp (o_ne hG) ops_neD (se_var hG (i := 12) rfl rfl (by decide) (by decide)) (se_fn hG ok__law_run_lists (by decide) rfl (H.glo _ rfl).1 (H.glo _ rfl).2 rfl rfl (sa_cons rfl (se_var hG (i := 8) rfl rfl (by decide) (by decide)) (sa_nil)) (by decide)) (by with_unfolding_all rfl))))) (sss_one (ss_ret (se_bl))) (sss_nil)) (sss_cons (ss_for hG hO (si_seq hG (se_var hG (i := 12) rfl rfl (by decide) (by decide))) rfl (sg_name hG (i := 13) rfl rfl) (sss_cons (ss_for hG hO (si_seq hG (se_var hG (i := 13) rfl rfl (by decide) (by decide))) rfl (sg_name hG (i := 14) rfl rfl) (sss_one (ss_expr rfl (se_bm hG F.plainAttrs_list F.slot_list_append F.type_list_append (fun _ _ => mt_append) mts_append (se_ix hG rfl (se_var hG (i := 14) rfl rfl (by decide) (by decide)) (se_int)) rfl rfl (sa_cons rfl (se_int) (sa_nil)) ⟨fun _ _ => rfl, fun _ _ => rfl⟩ rfl)))) (sss_one (ss_expr rfl (se_bm hG F.plainAttrs_list F.slot_list_append F.type_list_append (fun _ _ => mt_append) mts_append (se_var hG (i := 13) rfl rfl (by decide) (by decide)) rfl rfl (sa_cons rfl (se_lst (sa_cons rfl (se_int) (sa_cons rfl (se_int) (sa_cons rfl (se_lst (sa_nil)) (sa_nil))))) (sa_nil)) ⟨fun _ _ => rfl, fun _ _ => rfl⟩ rfl))))) (sss_cons (ss_if (sb_not (sb_tru (fun _ _ => rfl) hG (se_fn hG ok__law_walk_is (by decide) rfl (H.glo _ rfl).1 (H.glo _ rfl).2 rfl rfl (sa_cons rfl (se_var hG (i := 10) rfl rfl (by decide) (by decide)) (sa_cons rfl (se_var hG (i := 3) rfl rfl (by decide) (by decide)) (sa_cons rfl (se_callT hG (c_tuple hG) cas_tuple rfl (H.free _ rfl) (by decide +kernel) rfl rfl (sa_cons rfl (se_var hG (i := 6) rfl rfl (by decide) (by decide)) (sa_nil)) (by decide) (by decide)) (sa_cons rfl (se_callT hG (c_tuple hG) cas_tuple rfl (H.free _ rfl) (by decide +kernel) rfl rfl (sa_cons rfl (se_lc (own := [("_law_beat_here", 13)]) hG (blkOk_by (by decide +kernel)) (si_seq hG (se_var hG (i := 8) rfl rfl (by decide) (by decide))) rfl (sg_name (blk_fm hG) (i := 13) rfl rfl) (by decide) (sf_nil) (se_callT (blk_fm hG) (c_tuple (blk_fm hG)) cas_tuple rfl (H.free _ rfl) (by decide +kernel) rfl rfl (sa_cons rfl (se_var (blk_fm hG) (i := 13) rfl rfl (by decide) (by decide)) (sa_nil)) (by decide) (by decide))) (sa_nil)) (by decide) (by decide)) (sa_cons rfl (se_var hG (i := 9) rfl rfl (by decide) (by decide)) (sa_nil)))))) (by decide)))) (sss_one (ss_ret (se_bl))) (sss_nil)) (sss_cons (ss_if (sb_not (sb_tru (fun _ _ => rfl) hG (se_fn hG ok__law_walk_is (by decide) rfl (H.glo _ rfl).1 (H.glo _ rfl).2 rfl rfl (sa_cons rfl (se_var hG (i := 10) rfl rfl (by decide) (by decide)) (sa_cons rfl (se_var hG (i := 3) rfl rfl (by decide) (by decide)) (sa_cons rfl (se_var hG (i := 6) rfl rfl (by decide) (by decide)) (sa_cons rfl (se_slice hG (se_var hG (i := 8) rfl rfl (by decide) (by decide)) (so_none) (so_some (se_un (o_neg hG) uns_negD (se_int)))) (sa_cons rfl (se_slice hG (se_var hG (i := 9) rfl rfl (by decide) (by decide)) (so_none) (so_some (se_callB hG (c_max hG) cas_max2 rfl (H.free _ rfl) (by decide +kernel) rfl rfl (sa_cons rfl (se_int) (sa_cons rfl (se_var hG (i := 7) rfl rfl (by decide) (by decide)) (sa_nil))) (by decide) (by decide)))) (sa_nil)))))) (by decide)))) (sss_one (ss_ret (se_bl))) (sss_nil)) (sss_cons (ss_if (sb_not (sb_tru (fun _ _ => rfl) hG (se_fn hG ok__law_walk_is (by decide) rfl (H.glo _ rfl).1 (H.glo _ rfl).2 rfl rfl (sa_cons rfl (se_var hG (i := 10) rfl rfl (by decide) (by decide)) (sa_cons rfl (se_var hG (i := 3) rfl rfl (by decide) (by decide)) (sa_cons rfl (se_var hG (i := 6) rfl rfl (by decide) (by decide)) (sa_cons rfl (se_lst (sa_nil)) (sa_cons rfl (se_slice hG (se_var hG (i := 9) rfl rfl (by decide) (by decide)) (so_none) (so_some (se_int))) (sa_nil)))))) (by decide)))) (sss_one (ss_ret (se_bl))) (sss_nil)) (sss_cons (ss_if (sb_sw (sw_or (sb_cmp (o_ne hG) ops_neD (se_fn hG ok_corner (by decide) rfl (H.glo _ rfl).1 (H.glo _ rfl).2 rfl rfl (sa_cons rfl (se_var hG (i := 3) rfl rfl (by decide) (by decide)) (sa_cons rfl (se_var hG (i := 6) rfl rfl (by decide) (by decide)) (sa_nil))) (by decide)) (se_ix hG rfl (se_var hG (i := 9) rfl rfl (by decide) (by decide)) (se_int)) (by with_unfolding_all rfl)) (sw_or1 (sb_not (sb_tru (fun _ _ => rfl) hG (se_fn hG ok__law_integers (by decide) rfl (H.glo _ rfl).1 (H.glo _ rfl).2 rfl rfl (sa_cons rfl (se_fn hG ok_corner (by decide) rfl (H.glo _ rfl).1 (H.glo _ rfl).2 rfl rfl (sa_cons rfl (se_var hG (i := 3) rfl rfl (by decide) (by decide)) (sa_cons rfl (se_var hG (i := 6) rfl rfl (by decide) (by decide)) (sa_nil))) (by decide)) (sa_cons rfl (se_var hG (i := 1) rfl rfl (by decide) (by decide)) (sa_nil))) (by decide))))))) (sss_one (ss_ret (se_bl))) (sss_nil)) (sss_cons (ss_for hG hO (si_seq hG (se_var hG (i := 9) rfl rfl (by decide) (by decide))) rfl (sg_name hG (i := 15) rfl rfl) (sss_one (ss_if (sb_not (sb_tru (fun _ _ => rfl) hG (se_fn hG ok__law_rooms_are (by decide) rfl (H.glo _ rfl).1 (H.glo _ rfl).2 rfl rfl (sa_cons rfl (se_var hG (i := 3) rfl rfl (by decide) (by decide)) (sa_cons rfl (se_var hG (i := 15) rfl rfl (by decide) (by decide)) (sa_nil))) (by decide)))) (sss_one (ss_ret (se_bl))) (sss_nil)))) (sss_one (ss_ret (se_bl)))))))))))))))))))
theorem law_ok {w : World} {h : Heap} {K : PySem.W.Frag} {mg : Str → Option Value} (c : HeS.SaysS fa fn ds tf ex w h K) (X : K.In h) (Gn : h.Ns mainGlobals mg) :
    ∃ fd : FuncData, (∀ (s : Shared) (u : Value), BindsTo s fd ⟨[u], []⟩ [("_law_script", u)]) ∧ ∀ base : Heap, K.In base → base.Ns mainGlobals mg → (∀ p ∈ tf.map (He.cT K), LamX.TabB base mg p.1 p.2) → FnOk PW w K mg base (CX PW w) 13 (He.ga K "law") fd ["_law_script"] (spD ((tf.map (He.cT K)).map (·.2)) 1 (F_law K)) := by
  have cD := c.x.t.d
  have hA : AOk K (cf K) := aok_of cD (by decide +kernel)
  have hx := c.x.more
  obtain ⟨fd0, F0⟩ := cD.def_ 46 (d := d46) rfl
  have b0 := FunD.bindsA (ps := ["_law_script"]) F0 fun _ _ _ _ _ _ us hl => match us, hl with | [_], _ => rfl
  refine ⟨fd0, fun s u => b0 s [u] rfl, fun base hKb hns TB0 => ?_⟩
  have TB : ∀ q ∈ tf.map (He.cT K), GxR.TabB base mg q.1 q.2 := fun q hq => ⟨(TB0 q hq).code, (TB0 q hq).bm, (TB0 q hq).gP⟩
  have H : HyP ⟨PW, w, K, mg, base⟩ := hy_of cD X Gn (by decide +kernel) (by decide +kernel) (by decide +kernel)
  unfold ex at hx
  simp only [Bool.and_eq_true] at hx
  obtain ⟨⟨⟨⟨⟨⟨⟨⟨⟨hx0, hx1⟩, hx2⟩, hx3⟩, hx4⟩, hx5⟩, hx6⟩, hx7⟩, hx8⟩, hx9⟩ := hx
  have Mk_Web := mk_is cD (x := "Web") (by decide +kernel)
  have Mk_RowsTable := mk_is cD (x := "RowsTable") (by decide +kernel)
  have Mk_TermsTable := mk_is cD (x := "TermsTable") (by decide +kernel)
  have ok__law_cell : FG ⟨PW, w, K, mg, base⟩ ((tf.map (He.cT K)).map (·.2)) 2 (He.ga K "_law_cell") 2 (F__law_cell K) := by
    obtain ⟨fd, F⟩ := cD.def_ 31 (d := d31) rfl
    exact fok_D (d := d31) (N := N__law_cell) (k := 1) F S__law_cell rfl (F.bindsN fun _ _ _ _ _ _ us hl => match us, hl with | [_, _], _ => rfl) (fun E => b__law_cell H hA )
  have ok__law_draws : FG ⟨PW, w, K, mg, base⟩ ((tf.map (He.cT K)).map (·.2)) 2 (He.ga K "_law_draws") 2 (F__law_draws K) := by
    obtain ⟨fd, F⟩ := cD.def_ 32 (d := d32) rfl
    exact fok_D (d := d32) (N := N__law_draws) (k := 1) F S__law_draws rfl (F.bindsN fun _ _ _ _ _ _ us hl => match us, hl with | [_, _], _ => rfl) (fun E => b__law_draws H hA )
  have ok__law_heard : FG ⟨PW, w, K, mg, base⟩ ((tf.map (He.cT K)).map (·.2)) 2 (He.ga K "_law_heard") 3 (F__law_heard K) := by
    obtain ⟨fd, F⟩ := cD.def_ 33 (d := d33) rfl
    exact fok_D (d := d33) (N := N__law_heard) (k := 1) F S__law_heard rfl (F.bindsN fun _ _ _ _ _ _ us hl => match us, hl with | [_, _, _], _ => rfl) (fun E => b__law_heard H hA )
  have ok__law_terms : FG ⟨PW, w, K, mg, base⟩ ((tf.map (He.cT K)).map (·.2)) 2 (He.ga K "_law_terms") 2 (F__law_terms K) := by
    obtain ⟨fd, F⟩ := cD.def_ 34 (d := d34) rfl
    exact fok_D (d := d34) (N := N__law_terms) (k := 1) F S__law_terms rfl (F.bindsN fun _ _ _ _ _ _ us hl => match us, hl with | [_, _], _ => rfl) (fun E => b__law_terms H hA )
  have ok__law_table : FG ⟨PW, w, K, mg, base⟩ ((tf.map (He.cT K)).map (·.2)) 3 (He.ga K "_law_table") 4 (F__law_table K) := by
    obtain ⟨fd, F⟩ := cD.def_ 35 (d := d35) rfl
    exact fok_D (d := d35) (N := N__law_table) (k := 2) F S__law_table rfl (F.bindsN fun _ _ _ _ _ _ us hl => match us, hl with | [_, _, _, _], _ => rfl) (fun E => b__law_table H hA ok__law_draws ok__law_heard ok__law_terms)
  have ok__law_house_numbers : FG ⟨PW, w, K, mg, base⟩ ((tf.map (He.cT K)).map (·.2)) 2 (He.ga K "_law_house_numbers") 1 (F__law_house_numbers K) := by
    obtain ⟨fd, F⟩ := cD.def_ 37 (d := d37) rfl
    exact fok_D (d := d37) (N := N__law_house_numbers) (k := 1) F S__law_house_numbers rfl (F.bindsN fun _ _ _ _ _ _ us hl => match us, hl with | [_], _ => rfl) (fun E => b__law_house_numbers H hA )
  have ok__law_mark : FG ⟨PW, w, K, mg, base⟩ ((tf.map (He.cT K)).map (·.2)) 2 (He.ga K "_law_mark") 2 (F__law_mark K) := by
    obtain ⟨fd, F⟩ := cD.def_ 40 (d := d40) rfl
    exact fok_D (d := d40) (N := N__law_mark) (k := 1) F S__law_mark rfl (F.bindsN fun _ _ _ _ _ _ us hl => match us, hl with | [_, _], _ => rfl) (fun E => b__law_mark H hA )
  have ok__law_value : FG ⟨PW, w, K, mg, base⟩ ((tf.map (He.cT K)).map (·.2)) 2 (He.ga K "_law_value") 2 (F__law_value K) := by
    obtain ⟨fd, F⟩ := cD.def_ 38 (d := d38) rfl
    exact fok_D (d := d38) (N := N__law_value) (k := 1) F S__law_value rfl (F.bindsN fun _ _ _ _ _ _ us hl => match us, hl with | [_, _], _ => rfl) (fun E => b__law_value H hA )
  have ok__law_beat : FG ⟨PW, w, K, mg, base⟩ ((tf.map (He.cT K)).map (·.2)) 3 (He.ga K "_law_beat") 4 (F__law_beat K) := by
    obtain ⟨fd, F⟩ := cD.def_ 41 (d := d41) rfl
    exact fok_D (d := d41) (N := N__law_beat) (k := 2) F S__law_beat rfl (F.bindsN fun _ _ _ _ _ _ us hl => match us, hl with | [_, _, _, _], _ => rfl) (fun E => b__law_beat H hA ok__law_house_numbers ok__law_mark ok__law_value)
  have ok__law_run : FG ⟨PW, w, K, mg, base⟩ ((tf.map (He.cT K)).map (·.2)) 4 (He.ga K "_law_run") 5 (F__law_run K) := by
    obtain ⟨fd, F⟩ := cD.def_ 42 (d := d42) rfl
    exact fok_D (d := d42) (N := N__law_run) (k := 3) F S__law_run rfl (F.bindsN fun _ _ _ _ _ _ us hl => match us, hl with | [_, _, _, _, _], _ => rfl) (fun E => b__law_run H hA ok__law_beat ok__law_cell ok__law_draws)
  have ok__law_lists : FG ⟨PW, w, K, mg, base⟩ ((tf.map (He.cT K)).map (·.2)) 2 (He.ga K "_law_lists") 1 (F__law_lists K) := by
    obtain ⟨fd, F⟩ := cD.def_ 36 (d := d36) rfl
    exact fok_D (d := d36) (N := N__law_lists) (k := 1) F S__law_lists rfl (F.bindsN fun _ _ _ _ _ _ us hl => match us, hl with | [_], _ => rfl) (fun E => b__law_lists H hA )
  have ok_is_size : FG ⟨PW, w, K, mg, base⟩ ((tf.map (He.cT K)).map (·.2)) 2 (He.ga K "is_size") 1 (F_is_size K) := by
    obtain ⟨fd, F⟩ := cD.def_ 4 (d := d4) rfl
    exact fok_D (d := d4) (N := N_is_size) (k := 1) F S_is_size rfl (F.bindsN fun _ _ _ _ _ _ us hl => match us, hl with | [_], _ => rfl) (fun E => b_is_size H hA )
  have ok_is_ascending : FG ⟨PW, w, K, mg, base⟩ ((tf.map (He.cT K)).map (·.2)) 3 (He.ga K "is_ascending") 1 (F_is_ascending K) := by
    obtain ⟨fd, F⟩ := cD.def_ 1 (d := d1) rfl
    exact fok_D (d := d1) (N := N_is_ascending) (k := 2) F S_is_ascending rfl (F.bindsN fun _ _ _ _ _ _ us hl => match us, hl with | [_], _ => rfl) (fun E => b_is_ascending H hA (fun k E => cd_of (p := ("is_ascending", none)) (by decide +kernel) TB))
  have ok_is_group : FG ⟨PW, w, K, mg, base⟩ ((tf.map (He.cT K)).map (·.2)) 4 (He.ga K "is_group") 2 (F_is_group K) := by
    obtain ⟨fd, F⟩ := cD.def_ 2 (d := d2) rfl
    exact fok_D (d := d2) (N := N_is_group) (k := 3) F S_is_group rfl (F.bindsN fun _ _ _ _ _ _ us hl => match us, hl with | [_, _], _ => rfl) (fun E => b_is_group H hA ok_is_ascending (fun k E => cd_of (p := ("is_group", none)) (by decide +kernel) TB))
  have ok_Table_init : FG ⟨PW, w, K, mg, base⟩ ((tf.map (He.cT K)).map (·.2)) 2 (He.ma K (He.ga K "Table") "__init__") 2 (F_Table_init K) := by
    obtain ⟨fd, F⟩ := cD.def_ 47 (d := d47) rfl
    exact fok_D (d := d47) (N := N_Table_init) (k := 1) F S_Table_init rfl (F.bindsN fun _ _ _ _ _ _ us hl => match us, hl with | [_, _], _ => rfl) (fun E => b_Table_init H hA )
  obtain ⟨cda_RowsTable, fd_RowsTable, TT_RowsTable⟩ := HeS.sup_ok (prog := PW) (mg := mg) (c.sup (d := ⟨"RowsTable", "RowsTable.__init__", defArgs s_RowsTable_init__, defBody s_RowsTable_init__, defScope s_RowsTable_init__⟩) (List.mem_of_getElem? (i := 0) rfl)) hx0 (H.free _ rfl) (by kernel_rfl) ⟨_, rfl, rfl⟩
  have ok_RowsTable_init : FG ⟨PW, w, K, mg, base⟩ ((tf.map (He.cT K)).map (·.2)) 3 (He.ma K (He.ga K "RowsTable") "__init__") 3 (F_RowsTable_init K) := K26.ok_RowsTable_init H hA TT_RowsTable (He.eqO_ok hx2) (of_decide_eq_true hx3) hx4 ok_Table_init
  have ok_rows_table : FG ⟨PW, w, K, mg, base⟩ ((tf.map (He.cT K)).map (·.2)) 5 (He.ga K "rows_table") 3 (F_rows_table K) := by
    obtain ⟨fd, F⟩ := cD.def_ 23 (d := d23) rfl
    exact fok_D (d := d23) (N := N_rows_table) (k := 4) F S_rows_table rfl (F.bindsN fun _ _ _ _ _ _ us hl => match us, hl with | [_, _, _], _ => rfl) (fun E => b_rows_table H hA Mk_RowsTable ok_RowsTable_init ok_is_group (fun k E => cd_of (p := ("rows_table", none)) (by decide +kernel) TB))
  have ok_is_term : FG ⟨PW, w, K, mg, base⟩ ((tf.map (He.cT K)).map (·.2)) 4 (He.ga K "is_term") 2 (F_is_term K) := by
    obtain ⟨fd, F⟩ := cD.def_ 26 (d := d26) rfl
    exact fok_D (d := d26) (N := N_is_term) (k := 3) F S_is_term rfl (F.bindsN fun _ _ _ _ _ _ us hl => match us, hl with | [_, _], _ => rfl) (fun E => b_is_term H hA ok_is_ascending (fun k E => cd_of (p := ("is_term", none)) (by decide +kernel) TB))
  have ok_contains : FG ⟨PW, w, K, mg, base⟩ ((tf.map (He.cT K)).map (·.2)) 3 (He.ga K "contains") 2 (F_contains K) := by
    obtain ⟨fd, F⟩ := cD.def_ 28 (d := d28) rfl
    exact fok_D (d := d28) (N := N_contains) (k := 2) F S_contains rfl (F.bindsN fun _ _ _ _ _ _ us hl => match us, hl with | [_, _], _ => rfl) (fun E => b_contains H hA (fun k E => cd_of (p := ("contains", none)) (by decide +kernel) TB))
  have ok_stands_apart : FG ⟨PW, w, K, mg, base⟩ ((tf.map (He.cT K)).map (·.2)) 5 (He.ga K "stands_apart") 2 (F_stands_apart K) := by
    obtain ⟨fd, F⟩ := cD.def_ 27 (d := d27) rfl
    exact fok_D (d := d27) (N := N_stands_apart) (k := 4) F S_stands_apart rfl (F.bindsN fun _ _ _ _ _ _ us hl => match us, hl with | [_, _], _ => rfl) (fun E => b_stands_apart H hA ok_contains (fun k E => cd_of (p := ("stands_apart", none)) (by decide +kernel) TB))
  have ok_are_terms : FG ⟨PW, w, K, mg, base⟩ ((tf.map (He.cT K)).map (·.2)) 7 (He.ga K "are_terms") 2 (F_are_terms K) := by
    obtain ⟨fd, F⟩ := cD.def_ 25 (d := d25) rfl
    exact fok_D (d := d25) (N := N_are_terms) (k := 6) F S_are_terms rfl (F.bindsN fun _ _ _ _ _ _ us hl => match us, hl with | [_, _], _ => rfl) (fun E => b_are_terms H hA ok_is_ascending ok_is_term ok_stands_apart (fun k E => cd_of (p := ("are_terms", none)) (by decide +kernel) TB))
  obtain ⟨cda_TermsTable, fd_TermsTable, TT_TermsTable⟩ := HeS.sup_ok (prog := PW) (mg := mg) (c.sup (d := ⟨"TermsTable", "TermsTable.__init__", defArgs s_TermsTable_init__, defBody s_TermsTable_init__, defScope s_TermsTable_init__⟩) (List.mem_of_getElem? (i := 1) rfl)) hx1 (H.free _ rfl) (by kernel_rfl) ⟨_, rfl, rfl⟩
  have ok_TermsTable_init : FG ⟨PW, w, K, mg, base⟩ ((tf.map (He.cT K)).map (·.2)) 3 (He.ma K (He.ga K "TermsTable") "__init__") 3 (F_TermsTable_init K) := K26.ok_TermsTable_init H hA TT_TermsTable (He.eqO_ok hx5) (of_decide_eq_true hx3) hx4 ok_Table_init
  have ok_terms_table : FG ⟨PW, w, K, mg, base⟩ ((tf.map (He.cT K)).map (·.2)) 8 (He.ga K "terms_table") 3 (F_terms_table K) := by
    obtain ⟨fd, F⟩ := cD.def_ 24 (d := d24) rfl
    exact fok_D (d := d24) (N := N_terms_table) (k := 7) F S_terms_table rfl (F.bindsN fun _ _ _ _ _ _ us hl => match us, hl with | [_, _, _], _ => rfl) (fun E => b_terms_table H hA Mk_TermsTable ok_TermsTable_init ok_are_terms ok_is_group (fun k E => cd_of (p := ("terms_table", none)) (by decide +kernel) TB))
  have ok_table_of : FG ⟨PW, w, K, mg, base⟩ ((tf.map (He.cT K)).map (·.2)) 9 (He.ga K "table_of") 2 (F_table_of K) := by
    obtain ⟨fd, F⟩ := cD.def_ 22 (d := d22) rfl
    exact fok_D (d := d22) (N := N_table_of) (k := 8) F S_table_of rfl (F.bindsN fun _ _ _ _ _ _ us hl => match us, hl with | [_, _], _ => rfl) (fun E => b_table_of H hA ok_rows_table ok_terms_table)
  have ok_tables_of_web : FG ⟨PW, w, K, mg, base⟩ ((tf.map (He.cT K)).map (·.2)) 10 (He.ga K "tables_of_web") 1 (F_tables_of_web K) := by
    obtain ⟨fd, F⟩ := cD.def_ 30 (d := d30) rfl
    exact fok_D (d := d30) (N := N_tables_of_web) (k := 9) F S_tables_of_web rfl (F.bindsN fun _ _ _ _ _ _ us hl => match us, hl with | [_], _ => rfl) (fun E => b_tables_of_web H hA ok_table_of)
  have ok_Web_init : FG ⟨PW, w, K, mg, base⟩ ((tf.map (He.cT K)).map (·.2)) 11 (He.ma K (He.ga K "Web") "__init__") 2 (F_Web_init K) := by
    obtain ⟨fd, F⟩ := cD.def_ 52 (d := d52) rfl
    exact fok_D (d := d52) (N := N_Web_init) (k := 10) F S_Web_init rfl (F.bindsN fun _ _ _ _ _ _ us hl => match us, hl with | [_, _], _ => rfl) (fun E => b_Web_init H hA ok_is_size ok_tables_of_web)
  have ok__law_run_lists : FG ⟨PW, w, K, mg, base⟩ ((tf.map (He.cT K)).map (·.2)) 2 (He.ga K "_law_run_lists") 1 (F__law_run_lists K) := by
    obtain ⟨fd, F⟩ := cD.def_ 43 (d := d43) rfl
    exact fok_D (d := d43) (N := N__law_run_lists) (k := 1) F S__law_run_lists rfl (F.bindsN fun _ _ _ _ _ _ us hl => match us, hl with | [_], _ => rfl) (fun E => b__law_run_lists H hA )
  have ok_check_top : FG ⟨PW, w, K, mg, base⟩ ((tf.map (He.cT K)).map (·.2)) 2 (He.ga K "check_top") 2 (F_check_top K) := by
    obtain ⟨fd, F⟩ := cD.def_ 0 (d := d0) rfl
    exact fok_D (d := d0) (N := N_check_top) (k := 1) F S_check_top rfl (F.bindsN fun _ _ _ _ _ _ us hl => match us, hl with | [_, _], _ => rfl) (fun E => b_check_top H hA )
  have ok_is_row_of : FG ⟨PW, w, K, mg, base⟩ ((tf.map (He.cT K)).map (·.2)) 3 (He.ga K "is_row_of") 3 (F_is_row_of K) := by
    obtain ⟨fd, F⟩ := cD.def_ 3 (d := d3) rfl
    exact fok_D (d := d3) (N := N_is_row_of) (k := 2) F S_is_row_of rfl (F.bindsN fun _ _ _ _ _ _ us hl => match us, hl with | [_, _, _], _ => rfl) (fun E => b_is_row_of H hA (fun k E => cd_of (p := ("is_row_of", none)) (by decide +kernel) TB))
  have ok_as_state : FG ⟨PW, w, K, mg, base⟩ ((tf.map (He.cT K)).map (·.2)) 4 (He.ga K "as_state") 2 (F_as_state K) := by
    obtain ⟨fd, F⟩ := cD.def_ 5 (d := d5) rfl
    exact fok_D (d := d5) (N := N_as_state) (k := 3) F S_as_state rfl (F.bindsN fun _ _ _ _ _ _ us hl => match us, hl with | [_, _], _ => rfl) (fun E => b_as_state H hA ok_is_row_of)
  have ok_corner_of : FG ⟨PW, w, K, mg, base⟩ ((tf.map (He.cT K)).map (·.2)) 2 (He.ga K "corner_of") 2 (F_corner_of K) := by
    obtain ⟨fd, F⟩ := cD.def_ 11 (d := d11) rfl
    exact fok_D (d := d11) (N := N_corner_of) (k := 1) F S_corner_of rfl (F.bindsN fun _ _ _ _ _ _ us hl => match us, hl with | [_, _], _ => rfl) (fun E => b_corner_of H hA )
  have ok_mark_of : FG ⟨PW, w, K, mg, base⟩ ((tf.map (He.cT K)).map (·.2)) 2 (He.ga K "mark_of") 2 (F_mark_of K) := by
    obtain ⟨fd, F⟩ := cD.def_ 13 (d := d13) rfl
    exact fok_D (d := d13) (N := N_mark_of) (k := 1) F S_mark_of rfl (F.bindsN fun _ _ _ _ _ _ us hl => match us, hl with | [_, _], _ => rfl) (fun E => b_mark_of H hA )
  have ok_readable : FG ⟨PW, w, K, mg, base⟩ ((tf.map (He.cT K)).map (·.2)) 3 (He.ga K "readable") 2 (F_readable K) := by
    obtain ⟨fd, F⟩ := cD.def_ 12 (d := d12) rfl
    exact fok_D (d := d12) (N := N_readable) (k := 2) F S_readable rfl (F.bindsN fun _ _ _ _ _ _ us hl => match us, hl with | [_, _], _ => rfl) (fun E => b_readable H hA ok_mark_of)
  have ok_digits_of : FG ⟨PW, w, K, mg, base⟩ ((tf.map (He.cT K)).map (·.2)) 2 (He.ga K "digits_of") 1 (F_digits_of K) := by
    obtain ⟨fd, F⟩ := cD.def_ 15 (d := d15) rfl
    exact fok_D (d := d15) (N := N_digits_of) (k := 1) F S_digits_of rfl (F.bindsN fun _ _ _ _ _ _ us hl => match us, hl with | [_], _ => rfl) (fun E => b_digits_of H hA )
  have ok_can_read : FG ⟨PW, w, K, mg, base⟩ ((tf.map (He.cT K)).map (·.2)) 4 (He.ga K "can_read") 3 (F_can_read K) := by
    obtain ⟨fd, F⟩ := cD.def_ 20 (d := d20) rfl
    exact fok_D (d := d20) (N := N_can_read) (k := 3) F S_can_read rfl (F.bindsN fun _ _ _ _ _ _ us hl => match us, hl with | [_, _, _], _ => rfl) (fun E => b_can_read H hA ok_digits_of (fun k E => cd_of (p := ("can_read", none)) (by decide +kernel) TB))
  have ok_RowsTable_digit_for : FG ⟨PW, w, K, mg, base⟩ ((tf.map (He.cT K)).map (·.2)) 2 (He.ma K (He.ga K "RowsTable") "digit_for") 2 (F_RowsTable_digit_for K) := by
    obtain ⟨fd, F⟩ := cD.def_ 48 (d := d48) rfl
    exact fok_D (d := d48) (N := N_RowsTable_digit_for) (k := 1) F S_RowsTable_digit_for rfl (F.bindsN fun _ _ _ _ _ _ us hl => match us, hl with | [_, _], _ => rfl) (fun E => b_RowsTable_digit_for H hA )
  have ok_digit_of_sign : FG ⟨PW, w, K, mg, base⟩ ((tf.map (He.cT K)).map (·.2)) 2 (He.ga K "digit_of_sign") 1 (F_digit_of_sign K) := by
    obtain ⟨fd, F⟩ := cD.def_ 29 (d := d29) rfl
    exact fok_D (d := d29) (N := N_digit_of_sign) (k := 1) F S_digit_of_sign rfl (F.bindsN fun _ _ _ _ _ _ us hl => match us, hl with | [_], _ => rfl) (fun E => b_digit_of_sign H hA )
  have ok_TermsTable_digit_for : FG ⟨PW, w, K, mg, base⟩ ((tf.map (He.cT K)).map (·.2)) 3 (He.ma K (He.ga K "TermsTable") "digit_for") 2 (F_TermsTable_digit_for K) := by
    obtain ⟨fd, F⟩ := cD.def_ 50 (d := d50) rfl
    exact fok_D (d := d50) (N := N_TermsTable_digit_for) (k := 2) F S_TermsTable_digit_for rfl (F.bindsN fun _ _ _ _ _ _ us hl => match us, hl with | [_, _], _ => rfl) (fun E => b_TermsTable_digit_for H hA ok_digit_of_sign (fun k E => cd_of (p := ("TermsTable", some "digit_for")) (by decide +kernel) TB))
  have ok_digit_of_step : FG ⟨PW, w, K, mg, base⟩ ((tf.map (He.cT K)).map (·.2)) 2 (He.ga K "digit_of_step") 1 (F_digit_of_step K) := by
    obtain ⟨fd, F⟩ := cD.def_ 21 (d := d21) rfl
    exact fok_D (d := d21) (N := N_digit_of_step) (k := 1) F S_digit_of_step rfl (F.bindsN fun _ _ _ _ _ _ us hl => match us, hl with | [_], _ => rfl) (fun E => b_digit_of_step H hA )
  have MG_digit_for : MG ⟨PW, w, K, mg, base⟩ ((tf.map (He.cT K)).map (·.2)) 3 "digit_for" (M_digit_for K) := fun C np F e => by
    unfold M_digit_for at e
    by_cases hC0 : C = He.ga K "RowsTable"
    · simp only [hC0, if_true] at e
      first | (cases e; subst hC0; exact ⟨_, cls_is cD (by decide +kernel), meth_is cD (by decide +kernel), ok_RowsTable_digit_for.mono (by decide)⟩) | (rw [if_neg (by rw [← hC0]; assumption)] at e; cases e; subst hC0; exact ⟨_, cls_is cD (by decide +kernel), meth_is cD (by decide +kernel), ok_RowsTable_digit_for.mono (by decide)⟩)
    rw [if_neg hC0] at e
    by_cases hC1 : C = He.ga K "TermsTable"
    · simp only [hC1, if_true] at e
      first | (cases e; subst hC1; exact ⟨_, cls_is cD (by decide +kernel), meth_is cD (by decide +kernel), ok_TermsTable_digit_for.mono (by decide)⟩) | skip
    rw [if_neg hC1] at e
    cases e
  have ok_is_good : FG ⟨PW, w, K, mg, base⟩ ((tf.map (He.cT K)).map (·.2)) 5 (He.ga K "is_good") 4 (F_is_good K) := by
    obtain ⟨fd, F⟩ := cD.def_ 19 (d := d19) rfl
    exact fok_D (d := d19) (N := N_is_good) (k := 4) F S_is_good rfl (F.bindsN fun _ _ _ _ _ _ us hl => match us, hl with | [_, _, _, _], _ => rfl) (fun E => b_is_good H hA ok_can_read ok_digit_of_step ok_readable MG_digit_for)
  have ok_levels_after : FG ⟨PW, w, K, mg, base⟩ ((tf.map (He.cT K)).map (·.2)) 6 (He.ga K "levels_after") 5 (F_levels_after K) := by
    obtain ⟨fd, F⟩ := cD.def_ 18 (d := d18) rfl
    exact fok_D (d := d18) (N := N_levels_after) (k := 5) F S_levels_after rfl (F.bindsN fun _ _ _ _ _ _ us hl => match us, hl with | [_, _, _, _, _], _ => rfl) (fun E => b_levels_after H hA ok_is_good)
  have ok_levels_along : FG ⟨PW, w, K, mg, base⟩ ((tf.map (He.cT K)).map (·.2)) 7 (He.ga K "levels_along") 4 (F_levels_along K) := by
    obtain ⟨fd, F⟩ := cD.def_ 17 (d := d17) rfl
    exact fok_D (d := d17) (N := N_levels_along) (k := 6) F S_levels_along rfl (F.bindsN fun _ _ _ _ _ _ us hl => match us, hl with | [_, _, _, _], _ => rfl) (fun E => b_levels_along H hA ok_corner_of ok_levels_after)
  have ok_fine_states : FG ⟨PW, w, K, mg, base⟩ ((tf.map (He.cT K)).map (·.2)) 8 (He.ga K "fine_states") 4 (F_fine_states K) := by
    obtain ⟨fd, F⟩ := cD.def_ 16 (d := d16) rfl
    exact fok_D (d := d16) (N := N_fine_states) (k := 7) F S_fine_states rfl (F.bindsN fun _ _ _ _ _ _ us hl => match us, hl with | [_, _, _, _], _ => rfl) (fun E => b_fine_states H hA ok_as_state ok_check_top ok_levels_along)
  have ok__law_integers : FG ⟨PW, w, K, mg, base⟩ ((tf.map (He.cT K)).map (·.2)) 2 (He.ga K "_law_integers") 2 (F__law_integers K) := by
    obtain ⟨fd, F⟩ := cD.def_ 39 (d := d39) rfl
    exact fok_D (d := d39) (N := N__law_integers) (k := 1) F S__law_integers rfl (F.bindsN fun _ _ _ _ _ _ us hl => match us, hl with | [_, _], _ => rfl) (fun E => b__law_integers H hA )
  have ok__law_walk_is : FG ⟨PW, w, K, mg, base⟩ ((tf.map (He.cT K)).map (·.2)) 9 (He.ga K "_law_walk_is") 5 (F__law_walk_is K) := by
    obtain ⟨fd, F⟩ := cD.def_ 44 (d := d44) rfl
    exact fok_D (d := d44) (N := N__law_walk_is) (k := 8) F S__law_walk_is rfl (F.bindsN fun _ _ _ _ _ _ us hl => match us, hl with | [_, _, _, _, _], _ => rfl) (fun E => b__law_walk_is H hA ok__law_integers ok_fine_states)
  have ok_as_any_state : FG ⟨PW, w, K, mg, base⟩ ((tf.map (He.cT K)).map (·.2)) 5 (He.ga K "as_any_state") 1 (F_as_any_state K) := by
    obtain ⟨fd, F⟩ := cD.def_ 6 (d := d6) rfl
    exact fok_D (d := d6) (N := N_as_any_state) (k := 4) F S_as_any_state rfl (F.bindsN fun _ _ _ _ _ _ us hl => match us, hl with | [_], _ => rfl) (fun E => b_as_any_state H hA ok_as_state ok_is_size)
  have ok_corner : FG ⟨PW, w, K, mg, base⟩ ((tf.map (He.cT K)).map (·.2)) 6 (He.ga K "corner") 2 (F_corner K) := by
    obtain ⟨fd, F⟩ := cD.def_ 8 (d := d8) rfl
    exact fok_D (d := d8) (N := N_corner) (k := 5) F S_corner rfl (F.bindsN fun _ _ _ _ _ _ us hl => match us, hl with | [_, _], _ => rfl) (fun E => b_corner H hA ok_as_any_state ok_check_top ok_corner_of)
  have ok_as_any_levels : FG ⟨PW, w, K, mg, base⟩ ((tf.map (He.cT K)).map (·.2)) 3 (He.ga K "as_any_levels") 2 (F_as_any_levels K) := by
    obtain ⟨fd, F⟩ := cD.def_ 7 (d := d7) rfl
    exact fok_D (d := d7) (N := N_as_any_levels) (k := 2) F S_as_any_levels rfl (F.bindsN fun _ _ _ _ _ _ us hl => match us, hl with | [_, _], _ => rfl) (fun E => b_as_any_levels H hA ok_is_size (fun k E => cd_of (p := ("as_any_levels", none)) (by decide +kernel) TB))
  have ok_reading_room : FG ⟨PW, w, K, mg, base⟩ ((tf.map (He.cT K)).map (·.2)) 4 (He.ga K "reading_room") 2 (F_reading_room K) := by
    obtain ⟨fd, F⟩ := cD.def_ 9 (d := d9) rfl
    exact fok_D (d := d9) (N := N_reading_room) (k := 3) F S_reading_room rfl (F.bindsN fun _ _ _ _ _ _ us hl => match us, hl with | [_, _], _ => rfl) (fun E => b_reading_room H hA ok_as_any_levels ok_check_top ok_readable)
  have ok_state_at : FG ⟨PW, w, K, mg, base⟩ ((tf.map (He.cT K)).map (·.2)) 4 (He.ga K "state_at") 2 (F_state_at K) := by
    obtain ⟨fd, F⟩ := cD.def_ 14 (d := d14) rfl
    exact fok_D (d := d14) (N := N_state_at) (k := 3) F S_state_at rfl (F.bindsN fun _ _ _ _ _ _ us hl => match us, hl with | [_, _], _ => rfl) (fun E => b_state_at H hA ok_readable)
  have ok_corner_state : FG ⟨PW, w, K, mg, base⟩ ((tf.map (He.cT K)).map (·.2)) 5 (He.ga K "corner_state") 2 (F_corner_state K) := by
    obtain ⟨fd, F⟩ := cD.def_ 10 (d := d10) rfl
    exact fok_D (d := d10) (N := N_corner_state) (k := 4) F S_corner_state rfl (F.bindsN fun _ _ _ _ _ _ us hl => match us, hl with | [_, _], _ => rfl) (fun E => b_corner_state H hA ok_as_any_levels ok_check_top ok_state_at)
  have ok__law_rooms_are : FG ⟨PW, w, K, mg, base⟩ ((tf.map (He.cT K)).map (·.2)) 7 (He.ga K "_law_rooms_are") 2 (F__law_rooms_are K) := by
    obtain ⟨fd, F⟩ := cD.def_ 45 (d := d45) rfl
    exact fok_D (d := d45) (N := N__law_rooms_are) (k := 6) F S__law_rooms_are rfl (F.bindsN fun _ _ _ _ _ _ us hl => match us, hl with | [_, _], _ => rfl) (fun E => b__law_rooms_are H hA ok__law_integers ok__law_mark ok_corner ok_corner_state ok_reading_room)
  exact fnok_D (G := ⟨PW, w, K, mg, base⟩) (d := d46) (N := N_law) (k := 12) F0 S_law rfl (fun E => b_law H hA Mk_Web ok_Web_init ok__law_cell ok__law_draws ok__law_integers ok__law_lists ok__law_rooms_are ok__law_run ok__law_run_lists ok__law_table ok__law_walk_is ok_corner)
/-- what is left: the mathematics -/
def Math : Prop := ∀ (K : PySem.W.Frag) (b : Bool) (ns : List Int), ((["Web", "RowsTable", "TermsTable"] : List PySem.Str).map (He.ga K)).Nodup → ns.length ≤ 63 → (∀ z ∈ ns, Builtin.Int.intBits z ≤ 1048576) → ∃ L', F_law K [.ref 0] [.lst b (ns.map DI.D.int)] = .ok (.bl true) L'
open PySem.W PySem.Calls in
theorem holds_of (math : Math) : PySem.Challenge.rw_oldnews_k26_fine_runs_walked.Holds := by
  w_on; o_law
  refine HandSHeadRun.head_any (r := OpenLaw.row PySem.Challenge.rw_oldnews_k26_fine_runs_walked) (q := view (OpenLaw.row PySem.Challenge.rw_oldnews_k26_fine_runs_walked).prog [70]) (H := hk) (ob := ob) (M := 6000) (loose := loose) (d := HandSHeadRun.topDef (OpenLaw.row PySem.Challenge.rw_oldnews_k26_fine_runs_walked).prog 70) (kwd := []) ob_eq
    (by kernel_rfl) (fun s => by kernel_rfl) run (by kernel_rfl) (by kernel_rfl) (by kernel_rfl) (by rfl) (by first | assumption | decide +kernel) (by decide +kernel) ⟨rfl, rfl, rfl, rfl, rfl, by decide +kernel⟩ ?hw ?hc
  case hw => w_witness2
  case hc =>
    refine LamX.walk_ofTsE (l := PySem.Challenge.rw_oldnews_k26_fine_runs_walked) (n := 63) (k := 13) (x := "_law_script") (CX := fun w => L2.CX PySem.Challenge.rw_oldnews_k26_fine_runs_walked.prog w) rfl (by decide) (by kernel_rfl) ⟨rfl, by decide, by decide⟩ ?F (fun w H s e s' z => CX_no _ _ _ _ _ z)
    intro w mg fa0 h Y Gn hmg0
    obtain ⟨K, KX, c⟩ := Y
    have hmg : mg ("law" : PySem.Str) = some (.ref fa0) := by
      have e : (HandSHeadRun.topDef (OpenLaw.row PySem.Challenge.rw_oldnews_k26_fine_runs_walked).prog 70).name = ("law" : PySem.Str) := by kernel_rfl
      rw [← e]
      exact hmg0
    have e := hmg.symm.trans (glo_is c.x.t.d KX Gn (x := "law") (by decide +kernel))
    cases e
    obtain ⟨fd, hb, hF⟩ := law_ok c KX Gn
    have hx := c.x.more
    unfold ex at hx
    simp only [Bool.and_eq_true] at hx
    refine ⟨K, KX, lawAt_of (cs := tf.map (He.cT K)) (F := F_law K) KX (fun a o e => HeS.noL_ok hx.2 e) (fun p hp => ?_) (fun p hp => ?_) (fun p hp => ?_) hb hF (fun b ns => math K b ns (of_decide_eq_true hx.1.2))⟩
    · obtain ⟨q, hq, rfl⟩ := List.mem_map.mp hp
      exact c.x.empty q hq
    · obtain ⟨q, hq, rfl⟩ := List.mem_map.mp hp
      exact c.x.out q hq
    · obtain ⟨q, hq, rfl⟩ := List.mem_map.mp hp
      exact PySem.W.codeHd_of_K KX (c.x.hd q hq)
end K26
set_option Elab.async false
set_option linter.all false
set_option maxRecDepth 100000
set_option maxHeartbeats 2000000
namespace K26
open PySem PySem.Spec PyProof.Rows L2 GxR DW GxA DI
variable {K : PySem.W.Frag}
theorem w_cell {b : Bool} {ns : List Int} {L : LH} {n k : Nat} {i : Int} {P : D → LH → Prop} (h : lstAt L n = some (ns.map D.int)) (hi : i = k) (hP : P (.int (ns.getD k 0)) L) : Rw (F__law_cell K [.ref n, .int i] L) P := by
  subst hi
  unfold F__law_cell m__law_cell
  rw [rw_fnD]
  show Sw (sSeq _ _ [some (.ref n), some (.int (k : Int))] L) _ _
  rw [sw_seq, sw_if, rw_val, rw_op, rw_var rfl, rw_call, rw_cons, rw_var rfl, rw_nil]
  refine rw_lenL h ?_
  rw [rw_ltI]
  simp only [List.length_map]
  by_cases c : (k : Int) < ns.length
  · rw [if_pos (decide_eq_true c), sw_ret, rw_call, rw_cons, rw_op, rw_var rfl, rw_var rfl]
    have hk : k < ns.length := by omega
    refine rw_ixL h (k := k) (d := .int ns[k]) (by rw [List.getElem?_map, List.getElem?_eq_getElem hk]; rfl) rfl ?_
    rw [rw_nil, rw_intI]
    have e : ns.getD k 0 = ns[k] := by simp [hk]
    rw [e] at hP
    exact hP
  · rw [if_neg (by rw [decide_eq_false c]; decide), sw_nx, sw_ret, rw_k]
    have e : ns.getD k 0 = 0 := by
      have hk : ns.length ≤ k := by omega
      simp [hk]
    rw [e] at hP
    exact hP
/-- the draws: each below its size -/
def Drawn (ss ds : List Int) : Prop := ds.length = ss.length ∧ ∀ (i : Nat) (d s : Int), ds[i]? = some d → ss[i]? = some s → 0 ≤ d ∧ d < s
theorem w_draws {ss : List Int} {L : LH} {n : Nat} {c : Int} (h : lstAt L n = some (ss.map D.int)) (hs : ∀ s ∈ ss, 0 < s ∧ s < 1000) (hl : ss.length ≤ 1000) :
    Rw (F__law_draws K [.int c, .ref n] L) fun v L' => Ex' L L' ∧ ∃ m ds, v = .ref m ∧ L.length ≤ m ∧ L'[m]? = some (.lst true (ds.map D.int)) ∧ Drawn ss ds := by
  unfold F__law_draws m__law_draws
  rw [rw_fnD]
  show Sw (sSeq _ _ [some (.int c), some (.ref n), none, none, none, none] L) _ _
  rw [sw_seq, sw_asgN, rw_call, rw_cons, rw_var rfl, rw_nil, rw_absI]
  generalize hr : (if c < 0 then -c else c) = r0
  rw [sw_seq, sw_asgN, rw_lst, rw_nil, if_pos (by decide)]
  rw [sw_seq, sw_for, rw_arg, rw_cons, rw_call, rw_cons, rw_var rfl, rw_nil]
  have h1 : lstAt (L ++ [Cell.lst true []]) n = some (ss.map D.int) := Ex'.lst Ex'.app h
  refine rw_lenL h1 ?_
  rw [rw_nil]
  refine rw_rng1 (by rw [List.length_map]; omega) ?_
  rw [List.length_map, Int.toNat_natCast]
  refine forD_w (xs := (List.range ss.length).map fun k => D.int (k : Nat))
    (fun i env L' => ∃ rest k m ds, env = [some (.int c), some (.ref n), some (.int rest), some (.ref L.length), k, m] ∧ Ex' L L' ∧ L'[L.length]? = some (.lst true ((ds : List Int).map D.int)) ∧ ds.length = i ∧ ∀ (j : Nat) (d s : Int), ds[j]? = some d → ss[j]? = some s → 0 ≤ d ∧ d < s)
    (fun i env L' _ _ => rng_at) (fun i env L' d hd hI => ?_) (fun env L' hI => ?_) turnsN 0 _ _ (by simp [turnsN]; omega) (Nat.zero_le _) ⟨r0, none, none, [], rfl, Ex'.app, by simp, rfl, fun j d s e _ => by simp at e⟩
  · obtain ⟨rest, k, m, ds, rfl, x, hc, hlen, hb⟩ := hI
    have hi : i < ss.length := by
      have := (List.getElem?_eq_some_iff.mp hd).1
      simpa using this
    have ed : d = .int (i : Nat) := by
      rw [List.getElem?_map, List.getElem?_range hi] at hd
      cases hd
      rfl
    subst ed
    refine ⟨_, rfl, ?_⟩
    have hsi : ss[i]? = some ss[i] := List.getElem?_eq_getElem hi
    obtain ⟨s1, s2⟩ := hs ss[i] (List.getElem_mem hi)
    have hat : ∀ L2 : LH, Ex' L L2 → lstAt L2 n = some (ss.map D.int) := fun L2 q => q.lst h
    have fin : ∀ (rest' : Int) (m' : Option D) (d : Int), 0 ≤ d → d < ss[i] → ∃ rest k m ds', ([some (.int c), some (.ref n), some (.int rest'), some (.ref L.length), some (.int (i : Nat)), m'] : Sl) = [some (.int c), some (.ref n), some (.int rest), some (.ref L.length), k, m] ∧
        Ex' L (L'.set L.length (.lst true (ds.map D.int ++ [.int d]))) ∧ (L'.set L.length (.lst true (ds.map D.int ++ [.int d])))[L.length]? = some (.lst true ((ds' : List Int).map D.int)) ∧ ds'.length = i + 1 ∧ ∀ (j : Nat) (d s : Int), ds'[j]? = some d → ss[j]? = some s → 0 ≤ d ∧ d < s := fun rest' m' d d1 d2 => by
      refine ⟨rest', _, m', ds ++ [d], rfl, x.set (Nat.le_refl _), ?_, by rw [List.length_append, List.length_singleton, hlen], fun j e s e1 e2 => ?_⟩
      · have hlt : L.length < L'.length := (List.getElem?_eq_some_iff.mp hc).1
        rw [List.getElem?_set_self hlt]
        simp
      · by_cases q : j < ds.length
        · rw [List.getElem?_append_left q] at e1
          exact hb j e s e1 e2
        · have ej : j = i := by
            have := (List.getElem?_eq_some_iff.mp e1).1
            rw [List.length_append, List.length_singleton] at this
            omega
          subst ej
          rw [List.getElem?_append_right (by omega), hlen, Nat.sub_self] at e1
          rw [hsi] at e2
          cases e1
          cases e2
          exact ⟨d1, d2⟩
    have i1 : (i : Int) < 1000 := by omega
    rw [sw_if, rw_val, rw_op, rw_call, rw_cons, rw_var rfl, rw_nil, rw_absI, rw_op, rw_k, rw_k]
    refine rw_powI (by unfold CPow; decide) ?_
    rw [rw_geI]
    rw [hr]
    refine if_sp (fun _ => ?_) (fun _ => ?_)
    · rw [sw_seq, sw_drop, rw_bm, rw_var rfl]
      rw [if_pos (isL_of hc), rw_cons, rw_op, rw_call, rw_cons, rw_var rfl, rw_nil, rw_intI, rw_op, rw_var rfl, rw_var rfl]
      refine rw_ixL (hat L' x) (k := i) (d := .int ss[i]) (by rw [List.getElem?_map, hsi]; rfl) rfl ?_
      refine rw_modI (by omega) ?_
      rw [rw_nil]
      refine rw_app hc (by rw [List.length_map]; omega) ?_
      have f1 : 0 ≤ rest.fmod ss[i] := Int.fmod_nonneg_of_pos rest s1
      have f2 : rest.fmod ss[i] < ss[i] := Int.fmod_lt_of_pos rest s1
      rw [sw_asgN, rw_op, rw_var rfl, rw_op, rw_var rfl, rw_var rfl]
      refine rw_ixL (hat _ (x.set (Nat.le_refl _))) (k := i) (d := .int ss[i]) (by rw [List.getElem?_map, hsi]; rfl) rfl ?_
      refine rw_fdivI ⟨by omega, by omega⟩ ?_
      exact fin _ _ _ f1 f2
    · rw [sw_seq, sw_asgN, rw_op, rw_call, rw_cons, rw_op, rw_op, rw_op, rw_op, rw_call, rw_cons, rw_call, rw_cons, rw_var rfl, rw_nil, rw_absI, rw_nil, rw_intI, rw_k]
      refine rw_modI (by decide) ?_
      rw [rw_k, rw_addI, rw_op, rw_op, rw_k, rw_var rfl]
      rw [hr]
      generalize hm : r0.fmod 2147483647 = m0
      have m1 : 0 ≤ m0 := hm ▸ Int.fmod_nonneg_of_pos _ (by decide)
      have m2 : m0 < 2147483647 := hm ▸ Int.fmod_lt_of_pos _ (by decide)
      have q1 : CMulX 2 (i : Int) := cmulx_small (by omega) (by omega) (by omega) (by omega)
      rw [rw_mulE q1, rw_k, rw_addI]
      have q2 : CMulX (m0 + 1) (2 * (i : Int) + 7) := cmulx_small (by omega) (by omega) (by omega) (by omega)
      rw [rw_mulE q2, rw_k]
      have b1 : 0 ≤ (m0 + 1) * (2 * (i : Int) + 7) := Int.mul_nonneg (by omega) (by omega)
      have b2 : (m0 + 1) * (2 * (i : Int) + 7) ≤ 2147483647 * 3000 := Int.mul_le_mul (by omega) (by omega) (by omega) (by omega)
      generalize (m0 + 1) * (2 * (i : Int) + 7) = m8 at b1 b2 ⊢
      have q3 : CMulX m8 48271 := cmulx_small (by omega) (by omega) (by omega) (by omega)
      rw [rw_mulE q3, rw_nil, rw_intI, rw_k, rw_modE (by decide)]
      generalize hm2 : (m8 * 48271).fmod 2147483647 = m3
      have m4 : 0 ≤ m3 := hm2 ▸ Int.fmod_nonneg_of_pos _ (by decide)
      have m5 : m3 < 2147483647 := hm2 ▸ Int.fmod_lt_of_pos _ (by decide)
      rw [sw_seq, sw_asgN, rw_op, rw_call, rw_cons, rw_op, rw_op, rw_var rfl, rw_var rfl, rw_addI, rw_op, rw_var rfl, rw_k, rw_addI]
      have q4 : CMulX (m3 + i) (m3 + 69621) := cmulx_small (by omega) (by omega) (by omega) (by omega)
      rw [rw_mulE q4, rw_nil, rw_intI, rw_k, rw_modE (by decide)]
      generalize ((m3 + (i : Int)) * (m3 + 69621)).fmod 1000000007 = m7
      rw [sw_drop, rw_bm, rw_var rfl]
      rw [if_pos (isL_of hc), rw_cons, rw_op, rw_call, rw_cons, rw_op, rw_var rfl, rw_k]
      refine rw_fdivI ⟨by decide, by decide⟩ ?_
      rw [rw_nil, rw_intI, rw_op, rw_var rfl, rw_var rfl]
      refine rw_ixL (hat L' x) (k := i) (d := .int ss[i]) (by rw [List.getElem?_map, hsi]; rfl) rfl ?_
      refine rw_modI (by omega) ?_
      rw [rw_nil]
      refine rw_app hc (by rw [List.length_map]; omega) ?_
      exact fin _ _ _ (Int.fmod_nonneg_of_pos _ s1) (Int.fmod_lt_of_pos _ s1)
  · obtain ⟨rest, k, m, ds, rfl, x, hc, hlen, hb⟩ := hI
    rw [sw_ret, rw_var rfl]
    refine ⟨x, L.length, ds, rfl, Nat.le_refl _, hc, ?_, hb⟩
    rw [hlen, List.length_map, List.length_range]
end K26
set_option Elab.async false
set_option linter.all false
set_option maxRecDepth 100000
set_option maxHeartbeats 2000000
namespace K26
open PySem PySem.Spec PyProof.Rows L2 GxR DW GxA DI
variable {K : PySem.W.Frag}
/-- an ascending row of houses -/
def Hs (n : Int) (hs : List Int) : Prop := hs.Pairwise (· < ·) ∧ ∀ h ∈ hs, 0 ≤ h ∧ h < n
def upTo (n : Nat) : List Int := (List.range n).map fun (k : Nat) => (k : Int)
theorem upTo_D (n : Nat) : ((List.range n).map fun k => D.int (k : Nat)) = (upTo n).map D.int := by
  unfold upTo
  rw [List.map_map]
  rfl
theorem upTo_nodup (n : Nat) : (upTo n).Nodup := by
  unfold upTo
  refine List.pairwise_map.mpr (List.Pairwise.imp (fun {x y} (h : x ≠ y) => ?_) List.nodup_range)
  omega
theorem erase_perm : ∀ {lf : List Int} {k : Nat} {y : Int}, lf[k]? = some y → (y :: lf.eraseIdx k).Perm lf
  | [], _, _, h => by simp at h
  | x :: xs, 0, y, h => by
    simp at h
    subst h
    exact List.Perm.refl _
  | x :: xs, k + 1, y, h => by
    have q := erase_perm (show xs[k]? = some y by simpa using h)
    exact (List.Perm.swap x y _).trans (q.cons x)
theorem erase_map {lf : List Int} {k : Nat} : (lf.map D.int).eraseIdx k = (lf.eraseIdx k).map D.int := by
  rw [List.eraseIdx_eq_take_drop_succ, List.eraseIdx_eq_take_drop_succ, List.map_append, List.map_take, List.map_drop]
theorem hs_of {n : Nat} {hs lf : List Int} (p : (hs ++ lf).Perm (upTo n)) : Hs n (sortI hs) := by
  have nd : (hs ++ lf).Nodup := p.nodup_iff.mpr (upTo_nodup n)
  have n1 : hs.Nodup := (List.nodup_append.mp nd).1
  have n2 : (sortI hs).Nodup := (sortI_perm hs).nodup_iff.mpr n1
  refine ⟨?_, fun h hm => ?_⟩
  · have a := sortI_sorted hs
    exact (a.and n2).imp fun {x y} q => by have := q.1; have := q.2; omega
  · have m : h ∈ upTo n := p.mem_iff.mp (List.mem_append_left _ ((sortI_perm hs).mem_iff.mp hm))
    unfold upTo at m
    obtain ⟨k, hk, rfl⟩ := List.mem_map.mp m
    have := List.mem_range.mp hk
    omega
theorem perm_erase {hs lf : List Int} {k : Nat} {y : Int} {r : List Int} (p : (hs ++ lf).Perm r) (e : lf[k]? = some y) : ((hs ++ [y]) ++ lf.eraseIdx k).Perm r := by
  refine List.Perm.trans ?_ p
  rw [List.append_assoc]
  refine List.Perm.append_left hs ?_
  exact erase_perm e
theorem perm_good {n : Nat} {hs lf : List Int} (p : (hs ++ lf).Perm (upTo n)) : hs.Nodup ∧ ∀ h ∈ hs, 0 ≤ h ∧ h < n := by
  have nd : (hs ++ lf).Nodup := p.nodup_iff.mpr (upTo_nodup n)
  refine ⟨(List.nodup_append.mp nd).1, fun h hm => ?_⟩
  have m : h ∈ upTo n := p.mem_iff.mp (List.mem_append_left _ hm)
  unfold upTo at m
  obtain ⟨k, hk, rfl⟩ := List.mem_map.mp m
  have := List.mem_range.mp hk
  omega
theorem hs_good {n : Nat} {hs : List Int} (n1 : hs.Nodup) (b : ∀ h ∈ hs, 0 ≤ h ∧ h < n) : Hs n (sortI hs) := by
  have n2 : (sortI hs).Nodup := (sortI_perm hs).nodup_iff.mpr n1
  refine ⟨?_, fun h hm => b h ((sortI_perm hs).mem_iff.mp hm)⟩
  have a := sortI_sorted hs
  exact (a.and n2).imp fun {x y} q => by have := q.1; have := q.2; omega
theorem nodup_set {hs : List Int} {y : Int} (nd : hs.Nodup) (h : y ∉ hs) : (hs.set 0 y).Nodup := by
  cases hs with
  | nil => exact nd
  | cons a hs =>
    have n2 := (List.nodup_cons.mp nd).2
    exact List.nodup_cons.mpr ⟨fun m => h (List.mem_cons_of_mem _ m), n2⟩
theorem tru_lst {L : LH} {n : Nat} {xs : List D} (h : lstAt L n = some xs) : truD L (.ref n) = some (!xs.isEmpty) := by
  unfold truD
  simp only [seq_lst h]
theorem inV_ints {i : Int} : ∀ {ns : List Int}, inV (.int i) ((ns.map D.int).map vD) = decide (i ∈ ns)
  | [] => rfl
  | n :: ns => by
    show (eqV (.int n) (.int i) || inV (.int i) ((ns.map D.int).map vD)) = _
    rw [inV_ints (ns := ns)]
    have e : eqV (.int n) (.int i) = decide (n = i) := by
      unfold eqV
      rfl
    rw [e]
    by_cases h : n = i
    · subst h
      simp
    · have h' : ¬ i = n := fun e => h e.symm
      simp [h, h']
theorem fl_ints {ns : List Int} : (ns.map D.int).all flD = true := by
  rw [List.all_eq_true]
  intro d hd
  obtain ⟨z, _, rfl⟩ := List.mem_map.mp hd
  rfl
theorem rw_ninI {P : D → LH → Prop} {L : LH} {i : Int} {e : D} {ns : List Int} (h : seqD L e = some (ns.map D.int)) : Rw (inD true (.int i) e L) P = P (.bl (!decide (i ∈ ns))) L := by
  show Rw (inFl true (.int i) e L) P = _
  unfold inFl
  simp only [h]
  rw [if_pos (by rw [fl_ints]; rfl)]
  show P (.bl (!inV (.int i) ((ns.map D.int).map vD))) L = _
  rw [inV_ints]
theorem w_heard {L : LH} {n : Nat} {b : Bool} {ds : List Int} {d0 : Int} {size : Nat} (h : L[n]? = some (.lst b (ds.map D.int))) (h0 : ds[0]? = some d0) (hd0 : 0 ≤ d0 ∧ d0 < 5) (hl : ds.length = 6) (hz : size ≤ 12) {ho : Nat} (hho : ho < size) :
    Rw (F__law_heard K [.ref n, .int size, .int (ho : Nat)] L) fun v L' => Ex' L L' ∧ ∃ hs, v = .tup (hs.map D.int) ∧ Hs size hs ∧ hs.length ≤ 4 := by
  unfold F__law_heard m__law_heard
  rw [rw_fnD]
  show Sw (sSeq _ _ [some (.ref n), some (.int (size : Int)), some (.int (ho : Nat)), none, none, none, none] L) _ _
  rw [sw_seq, sw_asgN]
  refine rw_lc ?_
  rw [rw_arg, rw_cons, rw_var rfl, rw_nil]
  refine rw_rng1 (by omega) ?_
  rw [Int.toNat_natCast]
  refine ⟨(upTo size).map D.int, fun _ => true, id, by simp [upTo]; omega, fun L2 _ i _ => by rw [rng_at, upTo_D], fun d _ L2 _ => ⟨_, rfl, rfl, Ex'.refl, fun _ => ?_⟩, fun L2 x2 hc => ?_⟩
  · show Rw (eVar 4 ((wipeE _ _).set 4 (some d)) L2) _
    exact ⟨rfl, Ex'.refl⟩
  rw [List.map_id, List.filter_eq_self.mpr (fun _ _ => rfl)] at hc
  rw [sw_seq, sw_asgN, rw_lst, rw_nil, if_pos (by decide)]
  have hl2 : L.length < L2.length := (List.getElem?_eq_some_iff.mp hc).1
  rw [sw_seq, sw_for, rw_arg, rw_cons, rw_call, rw_cons, rw_op, rw_var rfl, rw_k]
  have x3 : Ex' L (L2 ++ [Cell.lst true []]) := x2.trans Ex'.app
  refine rw_ixL (x3.lst (lst_of h)) (k := 0) (d := .int d0) (by rw [List.getElem?_map, h0]; rfl) rfl ?_
  rw [rw_cons, rw_var rfl, rw_nil, rw_minI, rw_nil]
  generalize hc0 : (if (size : Int) < d0 then (size : Int) else d0) = c0
  have hc1 : 0 ≤ c0 ∧ c0 < 5 ∧ c0 ≤ size := by
    rw [← hc0]
    split <;> omega
  refine rw_rng1 (by omega) ?_
  refine forD_w (xs := (List.range c0.toNat).map fun k => D.int (k : Nat))
    (fun i env L' => ∃ k lf hs, env = [some (.ref n), some (.int size), some (.int (ho : Nat)), some (.ref L.length), none, some (.ref L2.length), k] ∧ Ex' L L' ∧ L'[L.length]? = some (.lst true ((lf : List Int).map D.int)) ∧ L'[L2.length]? = some (.lst true ((hs : List Int).map D.int)) ∧ hs.length = i ∧ (hs ++ lf).Perm (upTo size))
    (fun i env L' _ _ => rng_at) (fun i env L' d hd hI => ?_) (fun env L' hI => ?_) turnsN 0 _ _ (by simp [turnsN]; omega) (Nat.zero_le _) ⟨none, upTo size, [], rfl, x3, Ex'.app _ _ hc, by simp, rfl, List.Perm.refl _⟩
  · obtain ⟨k, lf, hs, rfl, x, cl, ch, hlen, hp⟩ := hI
    have hi : i < c0.toNat := by
      have := (List.getElem?_eq_some_iff.mp hd).1
      simpa using this
    have ed : d = .int (i : Nat) := by
      rw [List.getElem?_map, List.getElem?_range hi] at hd
      cases hd
      rfl
    subst ed
    refine ⟨_, rfl, ?_⟩
    have hlf : hs.length + lf.length = size := by
      have := hp.length_eq
      rw [List.length_append] at this
      simpa [upTo] using this
    have hi2 : i + 1 < ds.length := by omega
    rw [sw_drop, rw_bm, rw_var rfl, if_pos (isL_of ch), rw_cons, rw_bm, rw_var rfl, if_pos (isL_of cl), rw_cons, rw_op, rw_call, rw_cons, rw_op, rw_var rfl, rw_op, rw_var rfl, rw_k, rw_addI]
    refine rw_ixL (x.lst (lst_of h)) (k := i + 1) (d := .int ds[i + 1]) (by rw [List.getElem?_map, List.getElem?_eq_getElem hi2]; rfl) (by omega) ?_
    rw [rw_nil, rw_intI, rw_call, rw_cons, rw_var rfl, rw_nil]
    refine rw_lenL (lst_of cl) ?_
    rw [List.length_map]
    have hne : (lf.length : Int) ≠ 0 := by omega
    rw [rw_modE hne, rw_nil]
    have f1 : 0 ≤ (ds[i + 1]).fmod lf.length := Int.fmod_nonneg_of_pos _ (by omega)
    have f2 : (ds[i + 1]).fmod lf.length < lf.length := Int.fmod_lt_of_pos _ (by omega)
    generalize (ds[i + 1]).fmod lf.length = z at f1 f2 ⊢
    have hz2 : z.toNat < lf.length := by omega
    have ez : lf[z.toNat]? = some lf[z.toNat] := List.getElem?_eq_getElem hz2
    refine rw_popAt cl (k := z.toNat) (y := .int lf[z.toNat]) (by rw [List.getElem?_map, ez]; rfl) (by omega) (by rw [List.length_map]; omega) ?_
    rw [rw_nil]
    have ne : L.length ≠ L2.length := by omega
    refine rw_app (xs := hs.map D.int) (by rw [List.getElem?_set_ne ne]; exact ch) (by rw [List.length_map]; omega) ?_
    have l1 : L.length < L'.length := (List.getElem?_eq_some_iff.mp cl).1
    have l2 : L2.length < L'.length := (List.getElem?_eq_some_iff.mp ch).1
    refine ⟨_, lf.eraseIdx z.toNat, hs ++ [lf[z.toNat]], rfl, (x.set (Nat.le_refl _)).set (Nat.le_of_lt hl2), ?_, ?_, by rw [List.length_append, List.length_singleton, hlen], perm_erase hp ez⟩
    · rw [List.getElem?_set_ne ne.symm, List.getElem?_set_self l1, erase_map]
    · rw [List.getElem?_set_self (by rw [List.length_set]; exact l2), List.map_append]
      rfl
  · obtain ⟨k, lf, hs, rfl, x, cl, ch, hlen, hp⟩ := hI
    rw [List.length_map, List.length_range] at hlen
    have hsl : hs.length ≤ 4 := by omega
    obtain ⟨nd, bd⟩ := perm_good hp
    have fin : ∀ (L5 : LH) (hs2 : List Int), Ex' L L5 → L5[L2.length]? = some (.lst true (hs2.map D.int)) → hs2.Nodup → (∀ h ∈ hs2, 0 ≤ h ∧ h < size) → hs2.length ≤ 4 → Rw (eCall tupleD (aCons (eCall sortedD (aCons (eVar 5) (aNil))) (aNil)) [some (.ref n), some (.int size), some (.int (ho : Nat)), some (.ref L.length), none, some (.ref L2.length), k] L5) fun v L' => Ex' L L' ∧ ∃ hs, v = .tup (hs.map D.int) ∧ Hs size hs ∧ hs.length ≤ 4 := fun L5 hs2 x5 c5 nd2 bd2 l2 => by
      rw [rw_call, rw_cons, rw_call, rw_cons, rw_var rfl, rw_nil, rw_sortedI (lst_of c5), rw_nil, rw_tupleL (lst_of (b := true) (xs := (sortI hs2).map D.int) (by simp))]
      exact ⟨x5.trans Ex'.app, sortI hs2, rfl, hs_good nd2 bd2, by rw [(sortI_perm hs2).length_eq]; exact l2⟩
    have h5 : 5 < ds.length := by omega
    rw [sw_seq, sw_if, rw_bAnd, rw_val, rw_op, rw_op, rw_var rfl, rw_k]
    refine rw_ixL (x.lst (lst_of h)) (k := 5) (d := .int ds[5]) (by rw [List.getElem?_map, List.getElem?_eq_getElem h5]; rfl) rfl ?_
    rw [rw_k, rw_eqI]
    show if decide _ = true then _ else _
    refine if_sp (fun _ => ?_) (fun _ => ?_)
    · rw [rw_bAnd, rw_truL, rw_var rfl]
      rw [tru_lst (lst_of ch)]
      show if (!(hs.map D.int).isEmpty) = true then _ else _
      refine if_sp (fun ne => ?_) (fun _ => ?_)
      · rw [rw_val, rw_op, rw_var rfl, rw_var rfl, rw_ninI (seq_lst (lst_of ch))]
        show if (!decide ((ho : Int) ∈ hs)) = true then _ else _
        refine if_sp (fun q => ?_) (fun _ => ?_)
        · have hni : (ho : Int) ∉ hs := by simpa using q
          have h0l : 0 < hs.length := by
            cases hs with
            | nil => simp at ne
            | cons _ _ => simp
          refine sw_set ?_
          rw [rw_var rfl, rw_var rfl, rw_k]
          have l2 : L2.length < L'.length := (List.getElem?_eq_some_iff.mp ch).1
          refine ⟨L2.length, 0, _, rfl, rfl, ch, by rw [List.length_map]; exact h0l, ?_⟩
          rw [sw_ret]
          refine fin _ (hs.set 0 ho) (x.set (Nat.le_of_lt hl2)) (by rw [List.getElem?_set_self l2, List.map_set]) (nodup_set nd hni) (fun h hm => ?_) (by rw [List.length_set]; exact hsl)
          rcases List.mem_or_eq_of_mem_set hm with q | q
          · exact bd h q
          · rw [q]; omega
        · rw [sw_nx, sw_ret]
          exact fin _ hs x ch nd bd hsl
      · show (if false = true then _ else _)
        rw [if_neg (by decide), sw_nx, sw_ret]
        exact fin _ hs x ch nd bd hsl
    · show (if false = true then _ else _)
      rw [if_neg (by decide), sw_nx, sw_ret]
      exact fin _ hs x ch nd bd hsl
end K26
set_option Elab.async false
set_option linter.all false
set_option maxRecDepth 100000
set_option maxHeartbeats 2000000
namespace K26
open PySem PySem.Spec PyProof.Rows L2 GxR DW GxA DI
variable {K : PySem.W.Frag}
def bitI (m : Int) (k : Nat) : Bool := decide (Builtin.bitAnd (m / 2 ^ k) 1 = 1)
def subI (o m : Int) : Bool := !decide (o = m) && decide (Builtin.bitAnd o m = o)
def termOf (hs : List Int) (m : Int) : List Int := ((List.range hs.length).filter (bitI m)).map fun k => hs.getD k 0
def TermsOf (hs ms : List Int) (ks : List (List Int)) : Prop := ks.Nodup ∧ ∀ k ∈ ks, ∃ m ∈ ms, k = termOf hs m ∧ ∀ o ∈ ms, subI o m = false
theorem bit_nat (m k : Nat) : bitI m k = m.testBit k := by
  unfold bitI
  have e : ((m : Int) / 2 ^ k) = ((m / 2 ^ k : Nat) : Int) := by
    rw [Int.natCast_ediv, Int.natCast_pow]
    rfl
  rw [e, bitAnd_pp (Int.natCast_nonneg _) (by decide), Int.toNat_natCast]
  rw [show (1 : Int).toNat = 1 from rfl, Nat.and_one_is_mod, Nat.testBit_eq_decide_div_mod_eq]
  congr 1
  rw [eq_iff_iff]
  omega
theorem term_nil {hs : List Int} {m : Int} (h : 0 ≤ m ∧ m < 2 ^ hs.length) (e : termOf hs m = []) : m = 0 := by
  obtain ⟨n, rfl⟩ := Int.eq_ofNat_of_zero_le h.1
  have hn : n < 2 ^ hs.length := by
    have := h.2
    exact_mod_cast this
  unfold termOf at e
  rw [List.map_eq_nil_iff, List.filter_eq_nil_iff] at e
  have z : n = 0 := by
    refine Nat.eq_of_testBit_eq fun k => ?_
    rw [Nat.zero_testBit]
    by_cases c : k < hs.length
    · have := e k (List.mem_range.mpr c)
      rw [bit_nat] at this
      simpa using this
    · exact Nat.testBit_lt_two_pow (Nat.lt_of_lt_of_le hn (Nat.pow_le_pow_right (by decide) (Nat.le_of_not_lt c)))
  rw [z]
  rfl
theorem sub_zero {m : Int} (h : m ≠ 0) : subI 0 m = true := by
  unfold subI
  rw [bitAnd_comm, bitAnd_zero, decide_eq_false (fun e => h e.symm)]
  rfl
theorem terms_ok {hs ms : List Int} {ks : List (List Int)} (hm : ∀ m ∈ ms, 0 ≤ m ∧ m < 2 ^ hs.length) (t : TermsOf hs ms ks) : ks.length < 2 ∨ [] ∉ ks := by
  by_cases c : [] ∈ ks
  · refine .inl ?_
    have all : ∀ k ∈ ks, k = [] := fun k hk => by
      obtain ⟨m0, a0, e0, f0⟩ := t.2 [] c
      obtain ⟨m, a, e, f⟩ := t.2 k hk
      have z0 := term_nil (hm m0 a0) e0.symm
      by_cases z : m = 0
      · rw [e, z, ← z0, ← e0]
      · have q := f m0 a0
        rw [z0, sub_zero z] at q
        cases q
    match ks, t.1, all with
    | [], _, _ => decide
    | [_], _, _ => exact Nat.lt_succ_self 1
    | a :: b :: r, nd, all =>
      have ea := all a List.mem_cons_self
      have eb := all b (List.mem_cons_of_mem _ List.mem_cons_self)
      rw [ea, eb] at nd
      exact absurd List.mem_cons_self (List.nodup_cons.mp nd).1
  · exact .inr c
theorem w_terms {L : LH} {n : Nat} {b : Bool} {hs ms : List Int} (h : L[n]? = some (.lst b (ms.map D.int))) (hh : hs.length ≤ 4) (hm : ∀ m ∈ ms, 0 ≤ m ∧ m < 2 ^ hs.length) (hl : ms.length ≤ 16) :
    Rw (F__law_terms K [.tup (hs.map D.int), .ref n] L) fun v L' => Ex' L L' ∧ ∃ ks, v = .tup ((sortL ks).map tupI) ∧ TermsOf hs ms ks ∧ ks.length ≤ 16 := by
  unfold F__law_terms m__law_terms
  rw [rw_fnD]
  show Sw (sSeq _ _ [some (.tup (hs.map D.int)), some (.ref n), none, none, none, none, none, none] L) _ _
  rw [sw_seq, sw_asgN, rw_lst, rw_nil, if_pos (by decide)]
  rw [sw_seq, sw_for, rw_src, rw_var rfl]
  have src : ∀ L2, Ex' L L2 → ∀ P : Src → LH → Prop, P (.one (.l n)) L2 → Rw (srcD (.ref n) L2) P := fun L2 x P hp => by
    have e := x.lst (lst_of h)
    show Rw (match lstAt L2 n with | some _ => .ok (.one (.l n)) L2 | none => .bad) P
    rw [e]
    exact hp
  have sat : ∀ L2 i, Ex' L L2 → Src.at L2 (.one (.l n)) i = some (ms.map D.int)[i]? := fun L2 i x => by
    have e := x.lst (lst_of h)
    show (match lstAt L2 n with | some xs => some xs[i]? | none => none) = _
    rw [e]
  refine src _ Ex'.app _ ?_
  refine forD_w (xs := ms.map D.int)
    (fun i env L' => ∃ s3 s4 s5 s6 s7 ks, env = [some (.tup (hs.map D.int)), some (.ref n), some (.ref L.length), s3, s4, s5, s6, s7] ∧ Ex' L L' ∧ L'[L.length]? = some (.lst true ((ks : List (List Int)).map tupI)) ∧ TermsOf hs ms ks ∧ ks.length ≤ i)
    (fun i env L' _ hI => sat L' i (by obtain ⟨_, _, _, _, _, _, _, x, _⟩ := hI; exact x)) (fun i env L' d hd hI => ?_) (fun env L' hI => ?_) turnsN 0 _ _ (by simp [turnsN]; omega) (Nat.zero_le _)
    ⟨none, none, none, none, none, [], rfl, Ex'.app, by simp, ⟨List.nodup_nil, fun _ hk => absurd hk (by simp)⟩, Nat.zero_le _⟩
  · obtain ⟨s3, s4, s5, s6, s7, ks, rfl, x, hc, ht, hlen⟩ := hI
    have hi : i < ms.length := by
      have := (List.getElem?_eq_some_iff.mp hd).1
      simpa using this
    have emi : ms[i]? = some ms[i] := List.getElem?_eq_getElem hi
    have ed : d = .int ms[i] := by
      rw [List.getElem?_map, emi] at hd
      cases hd
      rfl
    subst ed
    have hmem : ms[i] ∈ ms := List.getElem_mem hi
    generalize ms[i] = m at hd emi hmem ⊢
    refine ⟨_, rfl, ?_⟩
    rw [sw_seq, sw_asgN]
    refine rw_lc ?_
    rw [rw_src, rw_var rfl]
    refine src _ x _ ?_
    refine ⟨ms.map D.int, fun d => match d with | .int o => subI o m | _ => false, id, by rw [List.length_map]; omega, fun L2 x2 i _ => sat L2 i (x.trans x2), fun d hd2 L2 x2 => ?_, fun L2 x2 hc2 => ?_⟩
    · obtain ⟨o, ho, rfl⟩ := List.mem_map.mp hd2
      refine ⟨_, rfl, ?_⟩
      rw [rw_bAnd, rw_val, rw_op, rw_var rfl, rw_var rfl, rw_neI]
      show if (!decide (o = m)) = true then _ else _
      have last : Rw (eVar 5 (List.set (wipeE (List.set [some (D.tup (List.map D.int hs)), some (D.ref n), some (D.ref (List.length L)), s3, s4, s5, s6, s7] 3 (some (D.int m))) [5]) 5 (some (D.int o))) L2) fun e L4 => e = id (D.int o) ∧ Ex' L2 L4 := by
        rw [rw_var rfl]
        exact ⟨rfl, Ex'.refl⟩
      refine if_sp (fun q => ?_) (fun q => ?_)
      · rw [rw_val, rw_op, rw_op, rw_var rfl, rw_var rfl, rw_andI, rw_var rfl, rw_eqI]
        exact ⟨by show _ = subI o m; unfold subI; rw [q, Bool.true_and], Ex'.refl, fun _ => last⟩
      · exact ⟨by show _ = subI o m; unfold subI; rw [q, Bool.false_and], Ex'.refl, fun z => by cases z⟩
    rw [List.map_id] at hc2
    rw [sw_seq, sw_asgN, rw_call, rw_cons]
    refine rw_lc ?_
    rw [rw_arg, rw_cons, rw_call, rw_cons, rw_var rfl, rw_nil, rw_lenT, rw_nil]
    refine rw_rng1 (by rw [List.length_map]; omega) ?_
    rw [List.length_map, Int.toNat_natCast]
    refine ⟨(List.range hs.length).map fun k => D.int (k : Nat), fun d => match d with | .int k => bitI m k.toNat | _ => false, fun d => match d with | .int k => .int (hs.getD k.toNat 0) | d => d, by simp; omega, fun L3 _ i _ => rng_at, fun d hd2 L3 x3 => ?_, fun L3 x3 hc3 => ?_⟩
    · obtain ⟨k, hk, rfl⟩ := List.mem_map.mp hd2
      have hk2 := List.mem_range.mp hk
      refine ⟨_, rfl, ?_⟩
      rw [rw_val, rw_op, rw_op, rw_op, rw_var rfl, rw_var rfl, rw_shrI (Int.natCast_nonneg k), rw_k, rw_andI, rw_k, rw_eqI]
      refine ⟨by rw [Int.toNat_natCast]; rfl, Ex'.refl, fun _ => ?_⟩
      rw [rw_op, rw_var rfl, rw_var rfl]
      show Rw (ixD (.tup (hs.map D.int)) (.int (k : Int)) L3) _
      have e1 : atI (hs.map D.int) (k : Int) = some (.int (hs.getD k 0)) := by
        unfold atI ixN
        rw [if_pos (Int.natCast_nonneg k), if_pos (by rw [List.length_map]; omega)]
        show (hs.map D.int)[(k : Int).toNat]? = _
        rw [Int.toNat_natCast, List.getElem?_map, List.getElem?_eq_getElem hk2]
        simp [hk2]
      unfold ixD
      simp only [seqD, e1]
      exact ⟨by rw [Int.toNat_natCast], Ex'.refl⟩
    have et : (((List.range hs.length).map fun k => D.int (k : Nat)).filter fun d => match d with | .int k => bitI m k.toNat | _ => false).map (fun d => match d with | .int k => D.int (hs.getD k.toNat 0) | d => d) = (termOf hs m).map D.int := by
      rw [List.filter_map, List.map_map]
      unfold termOf
      rw [List.map_map]
      rfl
    rw [et] at hc3
    rw [rw_nil, rw_tupleL (lst_of hc3)]
    have xx : Ex' L L3 := (x.trans x2).trans x3
    have hc4 := x3 _ _ (x2 _ _ hc)
    have hc5 := x3 _ _ hc2
    rw [sw_if, rw_bAnd, rw_not, rw_truL, rw_var rfl]
    have etr : ∀ xs : List D, lstAt L3 L'.length = some xs → truD L3 (.ref L'.length) = some (!xs.isEmpty) := fun xs e => by
      show (match lstAt L3 L'.length with | some xs => some (!xs.isEmpty) | none => none) = _
      rw [e]
    rw [etr _ (lst_of hc5)]
    show if (!(!(List.filter _ (ms.map D.int)).isEmpty)) = true then _ else _
    rw [Bool.not_not]
    refine if_sp (fun q => ?_) (fun q => ?_)
    · have hno : ∀ o ∈ ms, subI o m = false := fun o ho => by
        rw [List.isEmpty_iff, List.filter_eq_nil_iff] at q
        have := q (.int o) (List.mem_map.mpr ⟨o, ho, rfl⟩)
        simpa using this
      rw [rw_val, rw_op, rw_var rfl, rw_var rfl]
      show Rw (inD true (tupI (termOf hs m)) (.ref L.length) L3) _
      rw [rw_ninT (lst_of hc4)]
      refine if_sp (fun q2 => ?_) (fun q2 => ?_)
      · rw [sw_drop, rw_bm, rw_var rfl, if_pos (isL_of hc4), rw_cons, rw_var rfl, rw_nil]
        refine rw_app hc4 (by rw [List.length_map]; omega) ?_
        have hnin : termOf hs m ∉ ks := by simpa using q2
        refine ⟨_, _, _, _, _, ks ++ [termOf hs m], rfl, xx.set (Nat.le_refl _), ?_, ⟨?_, fun k hk => ?_⟩, by rw [List.length_append, List.length_singleton]; omega⟩
        · rw [List.getElem?_set_self (List.getElem?_eq_some_iff.mp hc4).1, List.map_append]
          rfl
        · rw [List.nodup_append]
          refine ⟨ht.1, List.nodup_cons.mpr ⟨by simp, List.nodup_nil⟩, fun a ha b hb e => ?_⟩
          rw [List.mem_singleton] at hb
          rw [e, hb] at ha
          exact hnin ha
        · rcases List.mem_append.mp hk with z | z
          · exact ht.2 k z
          · rw [List.mem_singleton] at z
            exact ⟨m, hmem, z, hno⟩
      · exact ⟨_, _, _, _, _, ks, rfl, xx, hc4, ht, by omega⟩
    · exact ⟨_, _, _, _, _, ks, rfl, xx, hc4, ht, by omega⟩
  · obtain ⟨s3, s4, s5, s6, s7, ks, rfl, x, hc, ht, hlen⟩ := hI
    rw [sw_ret, rw_call, rw_cons, rw_call, rw_cons, rw_var rfl, rw_nil]
    refine rw_sortedT (lst_of hc) (terms_ok hm ht) ?_
    rw [rw_nil, rw_tupleL (lst_of (b := true) (xs := (sortL ks).map tupI) (by simp))]
    refine ⟨x.trans Ex'.app, ks, rfl, ht, ?_⟩
    rw [List.length_map] at hlen
    omega
end K26
set_option Elab.async false
set_option linter.all false
set_option maxRecDepth 100000
set_option maxHeartbeats 2000000
namespace K26
open PySem PySem.Spec PyProof.Rows L2 GxR DW GxA DI
variable {K : PySem.W.Frag}
def pairI (h s : Int) : D := .tup [.int h, .int s]
/-- a table row that the law draws -/
inductive RowOk (size : Int) : D → Prop
  | rows (hs bits : List Int) : Hs size hs → hs.length ≤ 4 → bits.length = 2 ^ hs.length → (∀ b ∈ bits, b = 0 ∨ b = 1) → RowOk size (.tup [.str "rows", .tup (hs.map D.int), .tup (bits.map D.int)])
  | terms (hs sg ms : List Int) (ks : List (List Int)) : Hs size hs → hs.length ≤ 4 → sg.length = hs.length → (∀ s ∈ sg, s = 1 ∨ s = -1) → (∀ m ∈ ms, 0 ≤ m ∧ m < 2 ^ hs.length) → TermsOf hs ms ks → ks.length ≤ 16 →
      RowOk size (.tup [.str "terms", .tup (List.zipWith pairI hs sg), .tup ((sortL ks).map tupI)])
def sizes : List Int := [2, 5, 12, 11, 10, 9, 2] ++ List.replicate 16 2 ++ [7] ++ List.replicate 6 16
theorem drawn_at {ss ds : List Int} (h : Drawn ss ds) {i : Nat} {s : Int} (e : ss[i]? = some s) : ∃ d, ds[i]? = some d ∧ 0 ≤ d ∧ d < s := by
  have hi : i < ds.length := by
    have := (List.getElem?_eq_some_iff.mp e).1
    have := h.1
    omega
  exact ⟨ds[i], List.getElem?_eq_getElem hi, h.2 i _ s (List.getElem?_eq_getElem hi) e⟩
theorem map_at {ns : List Int} {k : Nat} {d : Int} (h : ns[k]? = some d) : (ns.map D.int)[k]? = some (.int d) := by
  rw [List.getElem?_map, h]
  rfl
theorem w_table {L : LH} {c : Int} {size : Nat} (hz : 1 ≤ size ∧ size ≤ 12) {ho : Nat} (hho : ho < size) :
    Rw (F__law_table K [.int c, .int size, .int (ho : Nat), .int 4] L) fun v L' => Ex' L L' ∧ RowOk size v := by
  unfold F__law_table m__law_table
  rw [rw_fnD]
  show Sw (sSeq _ _ [some (.int c), some (.int (size : Int)), some (.int (ho : Nat)), some (.int 4), none, none, none, none, none, none] L) _ _
  rw [sw_seq, sw_asgN, rw_fn, rw_cons, rw_var rfl, rw_cons, rw_op, rw_op, rw_op]
  refine rw_lstW ?_
  rw [rw_cons, rw_k, rw_cons, rw_op, rw_var rfl, rw_k, rw_addI]
  simp only [rw_cons, rw_k, rw_nil]
  refine ⟨by decide, fun L1 x1 c1 => ?_⟩
  rw [rw_op]
  refine rw_lstW ?_
  simp only [rw_cons, rw_k, rw_nil]
  refine ⟨by decide, fun L2 x2 c2 => ?_⟩
  refine rw_repW c2 (k := 16) rfl (by decide) (by decide) fun L3 x3 c3 => ?_
  refine rw_addW (x3 _ _ (x2 _ _ c1)) c3 (by decide) fun L4 x4 c4 => ?_
  refine rw_lstW ?_
  simp only [rw_cons, rw_k, rw_nil]
  refine ⟨by decide, fun L5 x5 c5 => ?_⟩
  refine rw_addW (x5 _ _ c4) c5 (by decide) fun L6 x6 c6 => ?_
  rw [rw_op]
  refine rw_lstW ?_
  simp only [rw_cons, rw_k, rw_nil]
  refine ⟨by decide, fun L7 x7 c7 => ?_⟩
  refine rw_repW c7 (k := 6) rfl (by decide) (by decide) fun L8 x8 c8 => ?_
  refine rw_addW (x8 _ _ (x7 _ _ c6)) c8 (by decide) fun L9 x9 c9 => ?_
  have x19 : Ex' L L9 := (((((((x1.trans x2).trans x3).trans x4).trans x5).trans x6).trans x7).trans x8).trans x9
  refine if_len rfl ?_
  have hsz : L9[L8.length]? = some (.lst true (sizes.map D.int)) := c9
  clear c9 c8 c7 c6 c5 c4 c3 c2 c1
  generalize L8.length = n at hsz ⊢
  refine (w_draws (ss := sizes) (lst_of hsz) (by decide) (by decide)).mono fun v La ha => ?_
  obtain ⟨xa, m, ds, rfl, hm, hds, hdr⟩ := ha
  have xLa : Ex' L La := x19.trans xa
  have hlen : ds.length = 30 := hdr.1
  obtain ⟨d0, e0, d0a, d0b⟩ := drawn_at hdr (i := 0) (s := 2) rfl
  obtain ⟨d1, e1, d1a, d1b⟩ := drawn_at hdr (i := 1) (s := 5) rfl
  obtain ⟨d22, e22, d22a, d22b⟩ := drawn_at hdr (i := 23) (s := 7) rfl
  rw [sw_seq, sw_asgN, rw_fn, rw_cons, rw_sl, rw_var rfl, rw_oS, rw_k]
  show Rw (oSome _ _ _) _
  rw [rw_oS, rw_k]
  show Rw (slD _ _ _ _) _
  refine rw_slW (lst_of hds) fun Lb xb cb => ?_
  rw [rw_cons, rw_var rfl, rw_cons, rw_var rfl, rw_nil]
  refine if_len rfl ?_
  rw [show (some 1 : Option Int) = some ((1 : Nat) : Int) from rfl, show (some 7 : Option Int) = some ((7 : Nat) : Int) from rfl, cut_at (by decide) (by rw [List.length_map]; omega), ← List.map_drop, ← List.map_take] at cb
  refine (w_heard (d0 := d1) cb (by rw [List.getElem?_take_of_lt (by decide), List.getElem?_drop]; exact e1) ⟨d1a, d1b⟩ (by rw [List.length_take, List.length_drop, hlen]; decide) hz.2 hho).mono fun v Lc hc => ?_
  obtain ⟨xc, hs, rfl, hh, h4⟩ := hc
  have hdc : Lc[m]? = some (.lst true (ds.map D.int)) := xc _ _ (xb _ _ hds)
  have xLc : Ex' L Lc := (xLa.trans xb).trans xc
  obtain ⟨pw, hpw⟩ : ∃ p : Nat, p = 2 ^ hs.length := ⟨_, rfl⟩
  have hpow : pw ≤ 16 := by rw [hpw]; exact Nat.le_trans (Nat.pow_le_pow_right (by decide) h4) (by decide)
  have hpos : 0 < pw := by rw [hpw]; exact Nat.pow_pos (by decide)
  have hpwI : (2 : Int) ^ hs.length = pw := by rw [hpw, Int.natCast_pow]; rfl
  have hcp : CPow 1 (hs.length : Int) := ⟨by omega, by omega, by decide⟩
  have hsh : (1 : Int) * 2 ^ (hs.length : Int).toNat = (pw : Int) := by
    rw [Int.one_mul, Int.toNat_natCast, hpwI]
  rw [sw_seq, sw_if, rw_val, rw_op, rw_op, rw_var rfl, rw_k]
  refine rw_ixL (lst_of hdc) (k := 0) (map_at e0) rfl ?_
  rw [rw_k, rw_eqI]
  show if decide _ = true then _ else _
  refine if_sp (fun q => ?_) (fun q => ?_)
  · rw [sw_ret, rw_tup]
    simp only [rw_cons, rw_k, rw_nil]
    rw [rw_var rfl, rw_call, rw_cons, rw_sl, rw_var rfl, rw_oS, rw_k]
    show Rw (oSome _ _ _) _
    rw [rw_oS, rw_op, rw_k, rw_op, rw_k, rw_call, rw_cons, rw_var rfl, rw_nil, rw_lenT, List.length_map, rw_shlE hcp, hsh, rw_addI]
    show Rw (slD _ _ _ _) _
    refine rw_slW (lst_of hdc) fun Ld xd cd => ?_
    rw [show (some 7 : Option Int) = some ((7 : Nat) : Int) from rfl, show (7 : Int) + (pw : Int) = ((7 + pw : Nat) : Int) by omega, cut_at (by omega) (by rw [List.length_map]; omega), ← List.map_drop, ← List.map_take] at cd
    rw [rw_nil, rw_tupleL (lst_of cd)]
    refine if_le (by show (3 : Nat) ≤ 100000; decide) ?_
    refine ⟨xLc.trans xd, RowOk.rows hs _ hh h4 ?_ fun b hb => ?_⟩
    · rw [List.length_take, List.length_drop, hlen, ← hpw]
      omega
    · obtain ⟨k, hk⟩ := List.getElem?_of_mem hb
      have hk2 := (List.getElem?_eq_some_iff.mp hk).1
      rw [List.length_take, List.length_drop, hlen] at hk2
      rw [List.getElem?_take_of_lt (by omega), List.getElem?_drop] at hk
      have e : sizes[7 + k]? = some 2 := (show ∀ k, k < 16 → sizes[7 + k]? = some 2 by decide) k (by omega)
      have := hdr.2 _ _ _ hk e
      omega
  · rw [sw_nx]
    rw [sw_seq, sw_asgN, rw_call, rw_cons]
    refine rw_lc ?_
    rw [rw_arg, rw_cons, rw_call, rw_cons, rw_var rfl, rw_nil, rw_lenT, rw_nil, List.length_map]
    refine rw_rng1 (by omega) ?_
    rw [Int.toNat_natCast]
    refine ⟨(List.range hs.length).map fun k => D.int (k : Nat), fun _ => true, fun d => match d with | .int k => pairI (hs.getD k.toNat 0) (2 * ds.getD (7 + k.toNat) 0 - 1) | d => d, by simp; omega, fun L3 _ i _ => rng_at, fun d hd2 L3 x3 => ?_, fun L3 x3 hc3 => ?_⟩
    · obtain ⟨k, hk, rfl⟩ := List.mem_map.mp hd2
      have hk2 := List.mem_range.mp hk
      have hk3 : 7 + k < ds.length := by omega
      refine ⟨_, rfl, rfl, Ex'.refl, fun _ => ?_⟩
      rw [rw_tup]
      simp only [rw_cons, rw_nil]
      rw [rw_op, rw_var rfl, rw_var rfl]
      refine rw_ixT (k := k) (map_at (List.getElem?_eq_getElem hk2)) rfl ?_
      rw [rw_op, rw_op, rw_k, rw_op, rw_var rfl, rw_op, rw_k, rw_var rfl, rw_addI]
      refine rw_ixL (x3.lst (lst_of hdc)) (k := 7 + k) (map_at (List.getElem?_eq_getElem hk3)) (by omega) ?_
      have e := hdr.2 (7 + k) _ 2 (List.getElem?_eq_getElem hk3) ((show ∀ k, k < 16 → sizes[7 + k]? = some 2 by decide) k (by omega))
      have hcm : CMulX 2 ds[7 + k] := cmulx_small (by omega) (by omega) (by omega) (by omega)
      rw [rw_mulE hcm, rw_k, rw_subI]
      refine if_le (by show (2 : Nat) ≤ 100000; decide) ⟨?_, Ex'.refl⟩
      simp only [Int.toNat_natCast]
      rw [show hs.getD k 0 = hs[k] by simp [hk2], show ds.getD (7 + k) 0 = ds[7 + k] by simp [hk3]]
      rfl
    obtain ⟨sg, hsg⟩ : ∃ sg : List Int, sg = (List.range hs.length).map fun k => 2 * ds.getD (7 + k) 0 - 1 := ⟨_, rfl⟩
    have ehr : (((List.range hs.length).map fun k => D.int (k : Nat)).filter fun _ => true).map (fun d => match d with | .int k => pairI (hs.getD k.toNat 0) (2 * ds.getD (7 + k.toNat) 0 - 1) | d => d) = List.zipWith pairI hs sg := by
      rw [List.filter_eq_self.mpr (fun _ _ => rfl), List.map_map, hsg]
      refine List.ext_getElem (by simp) fun i h1 h2 => ?_
      have hi : i < hs.length := by simpa using h1
      simp [hi]
    rw [ehr] at hc3
    have hsl : sg.length = hs.length := by rw [hsg]; simp
    have hs1 : ∀ s ∈ sg, s = 1 ∨ s = -1 := fun s hm => by
      rw [hsg] at hm
      obtain ⟨k, hk, rfl⟩ := List.mem_map.mp hm
      have hk2 := List.mem_range.mp hk
      have hk3 : 7 + k < ds.length := by omega
      have e := hdr.2 (7 + k) _ 2 (List.getElem?_eq_getElem hk3) ((show ∀ k, k < 16 → sizes[7 + k]? = some 2 by decide) k (by omega))
      rw [show ds.getD (7 + k) 0 = ds[7 + k] by simp [hk3]]
      omega
    rw [rw_nil, rw_tupleL (lst_of hc3)]
    have hd3 := x3 _ _ hdc
    rw [sw_seq, sw_asgN]
    refine rw_lc ?_
    rw [rw_src, rw_sl, rw_var rfl, rw_oS, rw_k]
    show Rw (oSome _ _ _) _
    rw [rw_oS, rw_op, rw_k, rw_op, rw_var rfl, rw_k]
    refine rw_ixL (lst_of hd3) (k := 23) (map_at e22) rfl ?_
    rw [rw_addI]
    show Rw (slD _ _ _ _) _
    obtain ⟨n22, rfl⟩ := Int.eq_ofNat_of_zero_le d22a
    refine rw_slW (lst_of hd3) fun L4 x4 c4 => ?_
    rw [show (some 24 : Option Int) = some ((24 : Nat) : Int) from rfl, show (24 : Int) + (n22 : Int) = ((24 + n22 : Nat) : Int) by omega, cut_at (by omega) (by rw [List.length_map]; omega), ← List.map_drop, ← List.map_take, Nat.add_sub_cancel_left] at c4
    refine rw_srcL (lst_of c4) ?_
    generalize hm0 : (ds.drop 24).take n22 = m0 at c4 ⊢
    have hml : m0.length ≤ 6 := by rw [← hm0, List.length_take]; omega
    refine ⟨m0.map D.int, fun _ => true, fun d => match d with | .int z => .int (z.fmod pw) | d => d, by rw [List.length_map]; omega, fun L5 x5 i _ => src_atL (x5.lst (lst_of c4)), fun d hd2 L5 x5 => ?_, fun L5 x5 c5 => ?_⟩
    · obtain ⟨z, hz2, rfl⟩ := List.mem_map.mp hd2
      refine ⟨_, rfl, rfl, Ex'.refl, fun _ => ?_⟩
      rw [rw_op, rw_call, rw_cons, rw_var rfl, rw_nil, rw_intI, rw_op, rw_k, rw_call, rw_cons, rw_var rfl, rw_nil, rw_lenT, List.length_map, rw_shlE hcp, hsh, rw_modE (by omega)]
      exact ⟨rfl, Ex'.refl⟩
    have em : ((m0.map D.int).filter fun _ => true).map (fun d => match d with | .int z => D.int (z.fmod pw) | d => d) = (m0.map (·.fmod pw)).map D.int := by
      rw [List.filter_eq_self.mpr (fun _ _ => rfl), List.map_map, List.map_map]
      rfl
    rw [em] at c5
    have hms : ∀ m ∈ m0.map (·.fmod (pw : Int)), 0 ≤ m ∧ m < 2 ^ hs.length := fun m hm2 => by
      obtain ⟨z, _, rfl⟩ := List.mem_map.mp hm2
      rw [hpwI]
      exact ⟨Int.fmod_nonneg_of_pos _ (by omega), Int.fmod_lt_of_pos _ (by omega)⟩
    rw [sw_ret, rw_tup, rw_cons, rw_k, rw_cons, rw_var rfl, rw_cons, rw_fn, rw_cons, rw_var rfl, rw_cons, rw_var rfl, rw_nil]
    refine if_len rfl ?_
    refine (w_terms c5 h4 hms (by rw [List.length_map]; omega)).mono fun v L6 h6 => ?_
    obtain ⟨x6, ks, rfl, ht, hk⟩ := h6
    rw [rw_nil]
    refine if_le (by show (3 : Nat) ≤ 100000; decide) ?_
    exact ⟨(((xLc.trans x3).trans x4).trans x5).trans x6, RowOk.terms hs sg _ ks hh h4 hsl hs1 hms ht hk⟩
end K26
set_option Elab.async false
set_option linter.all false
set_option maxRecDepth 100000
set_option maxHeartbeats 2000000
namespace K26
open PySem PySem.Spec PyProof.Rows L2 GxR DW GxA DI
variable {K : PySem.W.Frag}
theorem rw_ltT {P : D → LH → Prop} {L : LH} {a b : List Int} : Rw (ltD (tupI a) (tupI b) L) P = P (.bl (HT.lexLt a b)) L := by
  show Rw (ltTup (tupI a) (tupI b) L) P = _
  unfold ltTup tupI
  simp only [intsD_map]
  rfl
theorem rw_chain {f f' : D → D → LH → DI.R D} {ma mb mc : Sl → LH → DI.R D} {env : Sl} {L : LH} {P : D → LH → Prop} : Rw (eChain f f' ma mb mc env L) P = Rw (ma env L) fun d L => Rw (mb env L) fun e L => Rw (f d e L) fun z L => match z with
    | .bl b => if b = true then Rw (mc env L) fun g L => Rw (f' e g L) P else P (.bl false) L
    | _ => False := by
  unfold eChain
  rw [rw_bind]
  congr 1
  funext d L
  rw [rw_bind]
  congr 1
  funext e L
  rw [rw_bind]
  congr 1
  funext z L
  cases z with
  | bl b =>
    cases b with
    | true =>
      simp only [if_true]
      rw [rw_bind]
    | false => rfl
  | _ => rfl
theorem all_true {xs : List D} : (if true = true then xs.all (fun _ => true) else xs.any fun _ => true) = true := by
  rw [if_pos rfl]
  exact List.all_eq_true.mpr fun _ _ => rfl
theorem w_ascG {xs : List D} {L : LH} {d : D} (hd : Is L d xs) (hl : xs.length ≤ 1000) (h : ∀ k a b, xs[k]? = some a → xs[k + 1]? = some b → ∀ L2, Rw (ltD a b L2) fun y L3 => y = .bl true ∧ Ex' L2 L3) : Rw (F_is_ascending K [d] L) fun v L' => v = .bl true ∧ Ex' L L' := by
  unfold F_is_ascending m_is_ascending
  rw [rw_fnD]
  show Sw (sRet _ [some d] L) _ _
  rw [sw_ret]
  refine rw_ag ?_
  rw [rw_arg, rw_cons, rw_k, rw_cons, rw_call, rw_cons, rw_var rfl, rw_nil]
  refine rw_lenS hd ?_
  rw [rw_nil]
  refine rw_rng2 (by omega) ?_
  refine ⟨(List.range ((xs.length : Int) - 1).toNat).map fun k => D.int (1 + (k : Nat)), fun _ => true, by simp; omega, fun L2 _ i _ => rng_at2, fun d2 hd2 L2 x2 => ?_, fun L2 x2 => ?_⟩
  · obtain ⟨k, hk, rfl⟩ := List.mem_map.mp hd2
    have hk2 := List.mem_range.mp hk
    have a1 : k < xs.length := by omega
    have a2 : k + 1 < xs.length := by omega
    refine ⟨_, rfl, ?_⟩
    show Rw (eOp ltD _ _ [some (.int (1 + (k : Int))), some d] L2) _
    rw [rw_op, rw_op, rw_var rfl, rw_op, rw_var rfl, rw_k, rw_subI]
    refine rw_ixS (hd.mono x2) (k := k) (List.getElem?_eq_getElem a1) (by omega) ?_
    rw [rw_op, rw_var rfl, rw_var rfl]
    refine rw_ixS (hd.mono x2) (k := k + 1) (List.getElem?_eq_getElem a2) (by omega) ?_
    exact h k _ _ (List.getElem?_eq_getElem a1) (List.getElem?_eq_getElem a2) L2
  · rw [all_true]
    exact ⟨rfl, x2⟩
theorem w_ascI {ns : List Int} {L : LH} {d : D} (hd : Is L d (ns.map D.int)) (hl : ns.length ≤ 1000) (h : ns.Pairwise (· < ·)) : Rw (F_is_ascending K [d] L) fun v L' => v = .bl true ∧ Ex' L L' := by
  refine w_ascG hd (by rw [List.length_map]; exact hl) fun k a b e1 e2 L2 => ?_
  rw [List.getElem?_map] at e1 e2
  obtain ⟨x, f1, rfl⟩ := Option.map_eq_some_iff.mp e1
  obtain ⟨y, f2, rfl⟩ := Option.map_eq_some_iff.mp e2
  rw [rw_ltI]
  obtain ⟨h1, rfl⟩ := List.getElem?_eq_some_iff.mp f1
  obtain ⟨h2, rfl⟩ := List.getElem?_eq_some_iff.mp f2
  exact ⟨by rw [decide_eq_true (List.pairwise_iff_getElem.mp h k (k + 1) h1 h2 (Nat.lt_succ_self k))], Ex'.refl⟩
theorem w_ascT {ks : List (List Int)} {L : LH} {d : D} (hd : Is L d (ks.map tupI)) (hl : ks.length ≤ 1000) (h : ks.Pairwise (fun x y => HT.lexLt x y = true)) : Rw (F_is_ascending K [d] L) fun v L' => v = .bl true ∧ Ex' L L' := by
  refine w_ascG hd (by rw [List.length_map]; exact hl) fun k a b e1 e2 L2 => ?_
  rw [List.getElem?_map] at e1 e2
  obtain ⟨x, f1, rfl⟩ := Option.map_eq_some_iff.mp e1
  obtain ⟨y, f2, rfl⟩ := Option.map_eq_some_iff.mp e2
  rw [rw_ltT]
  obtain ⟨h1, rfl⟩ := List.getElem?_eq_some_iff.mp f1
  obtain ⟨h2, rfl⟩ := List.getElem?_eq_some_iff.mp f2
  exact ⟨by rw [List.pairwise_iff_getElem.mp h k (k + 1) h1 h2 (Nat.lt_succ_self k)], Ex'.refl⟩
theorem w_groupI {size : Int} {ns : List Int} {L : LH} {d : D} (hd : Is L d (ns.map D.int)) (hl : ns.length ≤ 1000) (h : Hs size ns) : Rw (F_is_group K [.int size, d] L) fun v L' => v = .bl true ∧ Ex' L L' := by
  unfold F_is_group m_is_group
  rw [rw_fnD]
  show Sw (sRet _ [some (.int size), some d] L) _ _
  rw [sw_ret, rw_and, rw_fn, rw_cons, rw_var rfl, rw_nil]
  refine if_len rfl ?_
  refine (w_ascI hd hl h.1).mono fun v L1 hv => ?_
  obtain ⟨rfl, x1⟩ := hv
  show if true = true then _ else _
  rw [if_pos rfl]
  refine rw_ag ?_
  rw [rw_src, rw_var rfl]
  refine rw_srcS (hd.mono x1) fun s hat => ⟨ns.map D.int, fun _ => true, by rw [List.length_map]; omega, hat, fun d2 hd2 L2 x2 => ?_, fun L2 x2 => ?_⟩
  · obtain ⟨z, hz, rfl⟩ := List.mem_map.mp hd2
    obtain ⟨z1, z2⟩ := h.2 z hz
    refine ⟨_, rfl, ?_⟩
    show Rw (eChain leD ltD _ _ _ [some (.int z), some (.int size)] L2) _
    rw [rw_chain, rw_k, rw_var rfl, rw_leI]
    show if decide _ = true then _ else _
    rw [if_pos (decide_eq_true z1), rw_var rfl, rw_ltI]
    exact ⟨by rw [decide_eq_true z2], Ex'.refl⟩
  · rw [all_true]
    exact ⟨rfl, x1.trans x2⟩
end K26
set_option Elab.async false
set_option linter.all false
set_option maxRecDepth 100000
set_option maxHeartbeats 2000000
namespace K26
open PySem PySem.Spec PyProof.Rows L2 GxR DW GxA DI
variable {K : PySem.W.Frag}
theorem rw_inI {P : D → LH → Prop} {L : LH} {i : Int} {e : D} {ns : List Int} (h : seqD L e = some (ns.map D.int)) : Rw (inD false (.int i) e L) P = P (.bl (decide (i ∈ ns))) L := by
  show Rw (inFl false (.int i) e L) P = _
  unfold inFl
  simp only [h]
  rw [if_pos (by rw [fl_ints]; rfl)]
  show P (.bl (inV (.int i) ((ns.map D.int).map vD))) L = _
  rw [inV_ints]
theorem w_subs {ns os : List Int} {L : LH} {capt : List (Option Nat)} {env : Sl} {e2 : D} {tb : Bool} (hl : os.length ≤ 1000) (hc : capE capt env = [none, some e2]) (he : ∀ L2, Ex' L L2 → seqD L2 e2 = some (ns.map D.int)) (h1 : env[1]? = some (some (.tup (os.map D.int)))) :
    Rw (eAg true (iSrc (eVar 1)) (gNm 0) (eOp (inD false) (eVar 0) (eVar 1)) capt env L) fun v L' => v = .bl (os.all fun o => decide (o ∈ ns)) ∧ Ex' L L' := by
  refine rw_ag ?_
  rw [rw_src, rw_var h1]
  refine rw_srcT ⟨os.map D.int, fun d => match d with | .int o => decide (o ∈ ns) | _ => false, by rw [List.length_map]; omega, fun L2 _ i _ => src_atT, fun d hd L2 x2 => ?_, fun L2 x2 => ?_⟩
  · obtain ⟨z, hz, rfl⟩ := List.mem_map.mp hd
    rw [hc]
    refine ⟨_, rfl, ?_⟩
    show Rw (eOp (inD false) _ _ [some (.int z), some e2] L2) _
    rw [rw_op, rw_var rfl, rw_var rfl, rw_inI (he L2 x2)]
    exact ⟨rfl, Ex'.refl⟩
  · rw [if_pos rfl]
    exact ⟨by rw [List.all_map] <;> rfl, x2⟩
theorem w_term {hn : Nat} {hs t : List Int} {L : LH} (h : lstAt L hn = some (hs.map D.int)) (hl : t.length ≤ 1000) (ha : t.Pairwise (· < ·)) (hm : ∀ o ∈ t, o ∈ hs) : Rw (F_is_term K [.ref hn, tupI t] L) fun v L' => v = .bl true ∧ Ex' L L' := by
  unfold F_is_term m_is_term
  rw [rw_fnD]
  show Sw (sRet _ [some (.ref hn), some (.tup (t.map D.int))] L) _ _
  rw [sw_ret, rw_and, rw_fn, rw_cons, rw_var rfl, rw_nil]
  refine if_len rfl ?_
  refine (w_ascI (.tup _) hl ha).mono fun v L1 hv => ?_
  obtain ⟨rfl, x1⟩ := hv
  show if true = true then _ else _
  rw [if_pos rfl]
  refine (w_subs (ns := hs) (os := t) (e2 := .ref hn) hl rfl (fun L2 x2 => seq_lst (x2.lst (x1.lst h))) rfl (tb := true)).mono fun v L2 hv => ?_
  obtain ⟨rfl, x2⟩ := hv
  refine ⟨?_, x1.trans x2⟩
  congr 1
  rw [List.all_eq_true]
  exact fun o ho => decide_eq_true (hm o ho)
theorem w_contains {t o : List Int} {L : LH} (hl : o.length ≤ 1000) : Rw (F_contains K [tupI t, tupI o] L) fun v L' => v = .bl (o.all fun z => decide (z ∈ t)) ∧ Ex' L L' := by
  unfold F_contains m_contains
  rw [rw_fnD]
  show Sw (sRet _ [some (.tup (t.map D.int)), some (.tup (o.map D.int))] L) _ _
  rw [sw_ret]
  exact w_subs (ns := t) (os := o) (e2 := .tup (t.map D.int)) hl rfl (fun L2 x2 => rfl) rfl (tb := true)
theorem w_apart {t : List Int} {ks : List (List Int)} {L : LH} (hl : ks.length ≤ 1000) (hk : ∀ k ∈ ks, k.length ≤ 1000) (ha : ∀ k ∈ ks, k ≠ t → ∃ z ∈ k, z ∉ t) : Rw (F_stands_apart K [tupI t, .tup (ks.map tupI)] L) fun v L' => v = .bl true ∧ Ex' L L' := by
  unfold F_stands_apart m_stands_apart
  rw [rw_fnD]
  show Sw (sRet _ [some (tupI t), some (.tup (ks.map tupI))] L) _ _
  rw [sw_ret, rw_notE]
  refine rw_ag ?_
  rw [rw_src, rw_var rfl]
  refine rw_srcT ⟨ks.map tupI, fun _ => false, by rw [List.length_map]; omega, fun L2 _ i _ => src_atT, fun d hd L2 x2 => ?_, fun L2 x2 => ?_⟩
  · obtain ⟨k, hk2, rfl⟩ := List.mem_map.mp hd
    refine ⟨_, rfl, ?_⟩
    show Rw (eAnd _ _ [some (tupI k), some (tupI t)] L2) _
    rw [rw_and, rw_op, rw_var rfl, rw_var rfl, rw_neT]
    show if (!decide (k = t)) = true then _ else _
    refine if_sp (fun q => ?_) (fun q => ⟨rfl, Ex'.refl⟩)
    rw [rw_fn, rw_cons, rw_var rfl, rw_cons, rw_var rfl, rw_nil]
    refine if_len rfl ?_
    refine (w_contains (t := t) (o := k) (hk k hk2)).mono fun v L3 hv => ?_
    obtain ⟨rfl, x3⟩ := hv
    refine ⟨?_, x3⟩
    obtain ⟨z, z1, z2⟩ := ha k hk2 (by simpa using q)
    congr 1
    exact List.all_eq_false.mpr ⟨z, z1, by simpa using z2⟩
  · rw [if_neg (by decide)]
    have e : ((ks.map tupI).any fun _ => false) = false := by
      rw [List.any_eq_false]
      intro _ _
      decide
    rw [e]
    exact ⟨rfl, x2⟩
theorem w_are_terms {hn : Nat} {hs : List Int} {ks : List (List Int)} {L : LH} (h : lstAt L hn = some (hs.map D.int)) (hl : ks.length ≤ 1000) (hk : ∀ k ∈ ks, k.length ≤ 1000 ∧ k.Pairwise (· < ·) ∧ ∀ o ∈ k, o ∈ hs) (hs2 : ks.Pairwise (fun x y => HT.lexLt x y = true))
    (ha : ∀ t ∈ ks, ∀ k ∈ ks, k ≠ t → ∃ z ∈ k, z ∉ t) : Rw (F_are_terms K [.ref hn, .tup (ks.map tupI)] L) fun v L' => v = .bl true ∧ Ex' L L' := by
  unfold F_are_terms m_are_terms
  rw [rw_fnD]
  show Sw (sSeq _ _ [some (.ref hn), some (.tup (ks.map tupI))] L) _ _
  rw [sw_seq, sw_if, rw_not, rw_truL]
  refine rw_ag ?_
  rw [rw_src, rw_var rfl]
  refine rw_srcT ⟨ks.map tupI, fun _ => true, by rw [List.length_map]; omega, fun L2 _ i _ => src_atT, fun d hd L2 x2 => ?_, fun L2 x2 => ?_⟩
  · obtain ⟨k, hk2, rfl⟩ := List.mem_map.mp hd
    refine ⟨_, rfl, ?_⟩
    show Rw (eFn _ _ _ [some (tupI k), some (.ref hn)] L2) _
    rw [rw_fn, rw_cons, rw_var rfl, rw_cons, rw_var rfl, rw_nil]
    refine if_len rfl ?_
    exact w_term (x2.lst h) (hk k hk2).1 (hk k hk2).2.1 (hk k hk2).2.2
  rw [all_true]
  show if (!true) = true then _ else _
  rw [if_neg (by decide), sw_nx, sw_ret, rw_and, rw_fn, rw_cons, rw_var rfl, rw_nil]
  refine if_len rfl ?_
  refine (w_ascT (.tup _) hl hs2).mono fun v L3 hv => ?_
  obtain ⟨rfl, x3⟩ := hv
  show if true = true then _ else _
  rw [if_pos rfl]
  refine rw_ag ?_
  rw [rw_src, rw_var rfl]
  refine rw_srcT ⟨ks.map tupI, fun _ => true, by rw [List.length_map]; omega, fun L2 _ i _ => src_atT, fun d hd L4 x4 => ?_, fun L4 x4 => ?_⟩
  · obtain ⟨k, hk2, rfl⟩ := List.mem_map.mp hd
    refine ⟨_, rfl, ?_⟩
    show Rw (eFn _ _ _ [some (tupI k), some (.tup (ks.map tupI))] L4) _
    rw [rw_fn, rw_cons, rw_var rfl, rw_cons, rw_var rfl, rw_nil]
    refine if_len rfl ?_
    exact w_apart hl (fun k hk3 => (hk k hk3).1) (ha k hk2)
  · rw [all_true]
    exact ⟨rfl, (x2.trans x3).trans x4⟩
end K26
set_option Elab.async false
set_option linter.all false
set_option maxRecDepth 100000
set_option maxHeartbeats 2000000
namespace K26
open PySem PySem.Spec PyProof.Rows L2 GxR DW GxA DI
variable {K : PySem.W.Frag}
theorem mem_term {hs : List Int} {m : Nat} {z : Int} : z ∈ termOf hs m ↔ ∃ i, i < hs.length ∧ m.testBit i = true ∧ hs[i]? = some z := by
  unfold termOf
  rw [List.mem_map]
  constructor
  · rintro ⟨i, hi, rfl⟩
    rw [List.mem_filter, List.mem_range, bit_nat] at hi
    exact ⟨i, hi.1, hi.2, by simp [hi.1]⟩
  · rintro ⟨i, h1, h2, h3⟩
    refine ⟨i, ?_, ?_⟩
    · rw [List.mem_filter, List.mem_range, bit_nat]
      exact ⟨h1, h2⟩
    · simp [h3]
theorem term_asc {hs : List Int} {m : Int} (h : hs.Pairwise (· < ·)) : (termOf hs m).Pairwise (· < ·) := by
  unfold termOf
  refine List.pairwise_map.mpr ?_
  have p : ((List.range hs.length).filter (bitI m)).Pairwise (· < ·) := (List.pairwise_lt_range).filter _
  refine (List.pairwise_iff_forall_sublist.mpr fun {a b} s => ?_)
  have hab := List.pairwise_iff_forall_sublist.mp p s
  have hb : b ∈ (List.range hs.length).filter (bitI m) := s.subset (by simp)
  have hb2 : b < hs.length := List.mem_range.mp (List.mem_filter.mp hb).1
  have ha2 : a < hs.length := Nat.lt_trans hab hb2
  have q := List.pairwise_iff_getElem.mp h a b ha2 hb2 hab
  simpa [ha2, hb2] using q
theorem term_sub {hs : List Int} {m o : Nat} (h : hs.Pairwise (· < ·)) (ho : o < 2 ^ hs.length) (hz : ∀ z ∈ termOf hs o, z ∈ termOf hs m) : o &&& m = o := by
  refine Nat.eq_of_testBit_eq fun i => ?_
  rw [Nat.testBit_and]
  cases c : o.testBit i with
  | false => rfl
  | true =>
    rw [Bool.true_and]
    have hi : i < hs.length := by
      by_cases q : i < hs.length
      · exact q
      · have := Nat.testBit_lt_two_pow (Nat.lt_of_lt_of_le ho (Nat.pow_le_pow_right (by decide) (Nat.le_of_not_lt q)))
        rw [c] at this
        cases this
    have ei : hs[i]? = some hs[i] := List.getElem?_eq_getElem hi
    obtain ⟨j, hj, bj, ej⟩ := mem_term.mp (hz hs[i] (mem_term.mpr ⟨i, hi, c, ei⟩))
    have e : i = j := by
      rcases Nat.lt_trichotomy i j with q | q | q
      · have := List.pairwise_iff_getElem.mp h i j hi hj q
        have ej2 : hs[j] = hs[i] := by rw [List.getElem?_eq_getElem hj] at ej; exact Option.some.inj ej
        omega
      · exact q
      · have := List.pairwise_iff_getElem.mp h j i hj hi q
        have ej2 : hs[j] = hs[i] := by rw [List.getElem?_eq_getElem hj] at ej; exact Option.some.inj ej
        omega
    rw [e]
    exact bj
theorem lex_total {x y : List Int} (h : lexLe x y) (n : x ≠ y) : HT.lexLt x y = true := by
  cases c : HT.lexLt x y with
  | true => rfl
  | false => exact (n (lexLe_anti h c)).elim
/-- what the program asks of the terms -/
theorem terms_good {size : Int} {hs ms : List Int} {ks : List (List Int)} (hh : Hs size hs) (hm : ∀ m ∈ ms, 0 ≤ m ∧ m < 2 ^ hs.length) (h4 : hs.length ≤ 4) (t : TermsOf hs ms ks) :
    (∀ k ∈ sortL ks, k.length ≤ 1000 ∧ k.Pairwise (· < ·) ∧ ∀ o ∈ k, o ∈ hs) ∧ (sortL ks).Pairwise (fun x y => HT.lexLt x y = true) ∧ ∀ t ∈ sortL ks, ∀ k ∈ sortL ks, k ≠ t → ∃ z ∈ k, z ∉ t := by
  have mem : ∀ k, k ∈ sortL ks ↔ k ∈ ks := fun k => (sortL_perm ks).mem_iff
  refine ⟨fun k hk => ?_, ?_, fun a ha k hk n => ?_⟩
  · obtain ⟨m, hm2, rfl, _⟩ := t.2 k ((mem k).mp hk)
    refine ⟨?_, term_asc hh.1, fun o ho => ?_⟩
    · unfold termOf
      rw [List.length_map]
      have := List.length_filter_le (bitI m) (List.range hs.length)
      rw [List.length_range] at this
      omega
    · obtain ⟨n, rfl⟩ := Int.eq_ofNat_of_zero_le (hm m hm2).1
      obtain ⟨i, _, _, e⟩ := mem_term.mp ho
      exact List.mem_of_getElem? e
  · have nd : (sortL ks).Nodup := (sortL_perm ks).nodup_iff.mpr t.1
    exact ((sortL_sorted ks).and nd).imp fun {x y} q => lex_total q.1 q.2
  · obtain ⟨m, hm2, ea, hno⟩ := t.2 a ((mem a).mp ha)
    obtain ⟨o, ho2, ek, _⟩ := t.2 k ((mem k).mp hk)
    refine Classical.byContradiction fun c => ?_
    have all : ∀ z ∈ k, z ∈ a := fun z hz => Classical.byContradiction fun q => c ⟨z, hz, q⟩
    obtain ⟨m', rfl⟩ := Int.eq_ofNat_of_zero_le (hm m hm2).1
    obtain ⟨o', rfl⟩ := Int.eq_ofNat_of_zero_le (hm o ho2).1
    rw [ea, ek] at all
    have ho' : o' < 2 ^ hs.length := by
      have := (hm _ ho2).2
      exact_mod_cast this
    have s := term_sub hh.1 ho' all
    have q := hno _ ho2
    unfold subI at q
    have ne : ¬ ((o' : Int) = m') := fun e => n (by rw [ea, ek, e])
    rw [decide_eq_false ne, bitAnd_pp (Int.natCast_nonneg _) (Int.natCast_nonneg _), Int.toNat_natCast, Int.toNat_natCast, s, decide_eq_true rfl] at q
    cases q
end K26
set_option Elab.async false
set_option linter.all false
set_option maxRecDepth 100000
set_option maxHeartbeats 2000000
namespace K26
open PySem PySem.Spec PyProof.Rows L2 GxR DW GxA DI
variable {K : PySem.W.Frag}
theorem cf_of {x f : PySem.Str} {fs : List PySem.Str} (h : (x, fs) ∈ clsL) (h2 : fs.contains f = true) : cf K (He.ga K x) f = true := by
  show (clsL.any fun p => decide (He.ga K x = He.ga K p.1) && p.2.contains f) = true
  rw [List.any_eq_true]
  exact ⟨(x, fs), h, by rw [decide_eq_true rfl, h2]; rfl⟩
theorem w_Table_init {L : LH} {n : Nat} {C : Addr} {h : D} (hc : L[n]? = some (.ins C [])) (hf : cf K C "heard" = true) {P : D → LH → Prop} (hP : P .non (L.set n (.ins C [("heard", h)]))) : Rw (F_Table_init K [.ref n, h] L) P := by
  unfold F_Table_init m_Table_init
  rw [rw_fnD]
  show Sw (sFldS _ _ _ _ [some (.ref n), some h] L) _ _
  refine sw_fldS ?_
  rw [rw_var rfl, rw_var rfl]
  exact ⟨n, C, [], rfl, hc, by decide, hf, hP⟩
def rowsIns (K : PySem.W.Frag) (h b : D) : Cell := .ins (He.ga K "RowsTable") [("heard", h), ("bits", b)]
def termsIns (K : PySem.W.Frag) (h e t : D) : Cell := .ins (He.ga K "TermsTable") [("heard", h), ("hearings", e), ("terms", t)]
theorem w_RowsTable_init {L : LH} {n : Nat} {h b : D} (hc : L[n]? = some (.ins (He.ga K "RowsTable") [])) {P : D → LH → Prop} (hP : P .non (L.set n (rowsIns K h b))) : Rw (F_RowsTable_init K [.ref n, h, b] L) P := by
  unfold F_RowsTable_init
  refine rw_fnS hc ?_
  show Rw (a_RowsTable_init K [some (.ref n), some h, some b] L) _
  unfold a_RowsTable_init
  rw [rw_cons, rw_var rfl, rw_nil]
  refine ⟨rfl, w_Table_init hc (cf_of (fs := ["bits", "heard"]) (by decide) (by decide)) ?_⟩
  rw [rw_fnD]
  unfold m_RowsTable_init
  show Sw (sFldS _ _ _ _ [some (.ref n), some h, some b] _) _ _
  refine sw_fldS ?_
  rw [rw_var rfl, rw_var rfl]
  have hn : n < L.length := (List.getElem?_eq_some_iff.mp hc).1
  refine ⟨n, _, _, rfl, List.getElem?_set_self hn, by show (1 : Nat) < 1000; decide, cf_of (fs := ["bits", "heard"]) (by decide) (by decide), ?_⟩
  rw [List.set_set]
  exact hP
theorem w_rows_table {L : LH} {hs bits : List Int} {size : Nat} (hh : Hs size hs) (h4 : hs.length ≤ 4) (hb : bits.length = 2 ^ hs.length) (h01 : ∀ b ∈ bits, b = 0 ∨ b = 1) :
    Rw (F_rows_table K [.tup (hs.map D.int), .tup (bits.map D.int), .int size] L) fun v L' => Ex' L L' ∧ ∃ n, v = .ref n ∧ L.length ≤ n ∧ L'[n]? = some (rowsIns K (.tup (hs.map D.int)) (.tup (bits.map D.int))) := by
  unfold F_rows_table m_rows_table
  rw [rw_fnD]
  show Sw (sSeq _ _ [some (.tup (hs.map D.int)), some (.tup (bits.map D.int)), some (.int size)] L) _ _
  obtain ⟨pw, hpw⟩ : ∃ p : Nat, p = 2 ^ hs.length := ⟨_, rfl⟩
  have hpow : pw ≤ 16 := by rw [hpw]; exact Nat.le_trans (Nat.pow_le_pow_right (by decide) h4) (by decide)
  have hpwI : (2 : Int) ^ hs.length = pw := by rw [hpw, Int.natCast_pow]; rfl
  rw [← hpw] at hb
  rw [sw_seq, sw_if, rw_bOr, rw_val, rw_op, rw_call, rw_cons, rw_var rfl, rw_nil, rw_lenT, List.length_map, rw_k, rw_gtI]
  show if decide _ = true then _ else _
  rw [if_neg (by rw [decide_eq_false (by omega)]; decide), rw_not, rw_truL, rw_fn, rw_cons, rw_var rfl, rw_cons, rw_var rfl, rw_nil]
  refine if_len rfl ?_
  refine (w_groupI (.tup _) (by omega) hh).mono fun v L1 hv => ?_
  obtain ⟨rfl, x1⟩ := hv
  show if (!true) = true then _ else _
  rw [if_neg (by decide), sw_nx]
  have hcp : CPow 1 (hs.length : Int) := ⟨by omega, by omega, by decide⟩
  have hsh : (1 : Int) * 2 ^ (hs.length : Int).toNat = (pw : Int) := by
    rw [Int.one_mul, Int.toNat_natCast, hpwI]
  rw [sw_seq, sw_if, rw_bOr, rw_val, rw_op, rw_call, rw_cons, rw_var rfl, rw_nil, rw_lenT, List.length_map, rw_op, rw_k, rw_call, rw_cons, rw_var rfl, rw_nil, rw_lenT, List.length_map, rw_shlE hcp, hsh, rw_neI]
  show if (!decide _) = true then _ else _
  rw [if_neg (by rw [decide_eq_true (by omega)]; decide), rw_not, rw_truL]
  refine rw_ag ?_
  rw [rw_src, rw_var rfl]
  refine rw_srcT ⟨bits.map D.int, fun _ => true, by rw [List.length_map]; omega, fun L2 _ i _ => src_atT, fun d hd L2 x2 => ?_, fun L2 x2 => ?_⟩
  · obtain ⟨z, hz, rfl⟩ := List.mem_map.mp hd
    refine ⟨_, rfl, ?_⟩
    show Rw (eOp (inD false) _ _ [some (.int z)] L2) _
    rw [rw_op, rw_var rfl, rw_tup]
    simp only [rw_cons, rw_k, rw_nil]
    refine if_le (by show (2 : Nat) ≤ 100000; decide) ?_
    rw [rw_inI (ns := [0, 1]) rfl]
    refine ⟨?_, Ex'.refl⟩
    rw [decide_eq_true (by rcases h01 z hz with q | q <;> simp [q])]
  rw [all_true]
  show if (!true) = true then _ else _
  rw [if_neg (by decide), sw_nx, sw_ret]
  refine rw_mk ?_
  rw [rw_cons, rw_var rfl, rw_cons, rw_var rfl, rw_nil]
  refine ⟨rfl, w_RowsTable_init (by simp) ⟨rfl, ?_⟩⟩
  refine ⟨(x1.trans x2).trans ((Ex'.app).set (Nat.le_refl _)), L2.length, rfl, (x1.trans x2).le, ?_⟩
  rw [List.getElem?_set_self (by simp)]
end K26
set_option Elab.async false
set_option linter.all false
set_option maxRecDepth 100000
set_option maxHeartbeats 2000000
namespace K26
open PySem PySem.Spec PyProof.Rows L2 GxR DW GxA DI
variable {K : PySem.W.Frag}
def pairsL (hs sg : List Int) : List D := List.zipWith pairI hs sg
theorem pairs_mem {hs sg : List Int} {d : D} (h : d ∈ pairsL hs sg) : ∃ z s, z ∈ hs ∧ s ∈ sg ∧ d = pairI z s := by
  unfold pairsL at h
  obtain ⟨i, hi⟩ := List.getElem?_of_mem h
  rw [List.getElem?_zipWith] at hi
  cases e1 : hs[i]? with
  | none => rw [e1] at hi; cases hi
  | some a =>
    cases e2 : sg[i]? with
    | none => rw [e1, e2] at hi; cases hi
    | some b =>
      rw [e1, e2] at hi
      cases hi
      exact ⟨a, b, List.mem_of_getElem? e1, List.mem_of_getElem? e2, rfl⟩
def fstD (d : D) : D := match d with
  | .tup [a, _] => a
  | d => d
theorem pairs_fst : ∀ {hs sg : List Int}, sg.length = hs.length → ((pairsL hs sg).filter fun _ => true).map fstD = hs.map D.int
  | [], [], _ => rfl
  | h :: hs, s :: sg, e => by
    have ih := pairs_fst (hs := hs) (sg := sg) (by simpa using e)
    show D.int h :: ((pairsL hs sg).filter fun _ => true).map fstD = _
    rw [ih]
    rfl
  | [], _ :: _, e => by cases e
  | _ :: _, [], e => by cases e
theorem pairs_len {hs sg : List Int} (e : sg.length = hs.length) : (pairsL hs sg).length = hs.length := by
  unfold pairsL
  rw [List.length_zipWith, e, Nat.min_self]
theorem w_TermsTable_init {L : LH} {n : Nat} {hs sg : List Int} {t : D} (hc : L[n]? = some (.ins (He.ga K "TermsTable") [])) (h4 : hs.length ≤ 4) (hl : sg.length = hs.length) {P : D → LH → Prop}
    (hP : ∀ L2, (∀ i c, i ≠ n → L[i]? = some c → L2[i]? = some c) → L2[n]? = some (termsIns K (.tup (hs.map D.int)) (.tup (pairsL hs sg)) t) → P .non L2) : Rw (F_TermsTable_init K [.ref n, .tup (pairsL hs sg), t] L) P := by
  unfold F_TermsTable_init
  refine rw_fnS hc ?_
  show Rw (a_TermsTable_init K [some (.ref n), some (.tup (pairsL hs sg)), some t, none] L) _
  unfold a_TermsTable_init
  rw [rw_cons, rw_call, rw_cons]
  refine rw_lc ?_
  rw [rw_src, rw_var rfl]
  refine rw_srcT ⟨pairsL hs sg, fun _ => true, fstD, by rw [pairs_len hl]; omega, fun L2 _ i _ => src_atT, fun d hd L2 x2 => ?_, fun L2 x2 c2 => ?_⟩
  · obtain ⟨z, s, _, _, rfl⟩ := pairs_mem hd
    refine ⟨_, rfl, rfl, Ex'.refl, fun _ => ?_⟩
    rw [rw_op, rw_var rfl, rw_k]
    show Rw (ixD (.tup [.int z, .int s]) (.int 0) L2) _
    exact rw_ixT (k := 0) (d := .int z) rfl rfl ⟨rfl, Ex'.refl⟩
  rw [pairs_fst hl] at c2
  rw [rw_nil, rw_tupleL (lst_of c2), rw_nil]
  have hc2 := x2 _ _ hc
  have hn : n < L2.length := (List.getElem?_eq_some_iff.mp hc2).1
  refine ⟨rfl, w_Table_init hc2 (cf_of (fs := ["hearings", "terms", "heard"]) (by decide) (by decide)) ?_⟩
  rw [rw_fnD]
  unfold m_TermsTable_init
  show Sw (sSeq _ _ [some (.ref n), some (.tup (pairsL hs sg)), some t, none] _) _ _
  rw [sw_seq]
  refine sw_fldS ?_
  rw [rw_var rfl, rw_var rfl]
  refine ⟨n, _, _, rfl, List.getElem?_set_self hn, by show (1 : Nat) < 1000; decide, cf_of (fs := ["hearings", "terms", "heard"]) (by decide) (by decide), ?_⟩
  rw [List.set_set]
  refine sw_fldS ?_
  rw [rw_var rfl, rw_var rfl]
  refine ⟨n, _, _, rfl, List.getElem?_set_self hn, by show (2 : Nat) < 1000; decide, cf_of (fs := ["hearings", "terms", "heard"]) (by decide) (by decide), ?_⟩
  rw [List.set_set]
  refine hP _ (fun i c ne e => ?_) ?_
  · rw [List.getElem?_set_ne (Ne.symm ne)]
    exact x2 _ _ e
  · rw [List.getElem?_set_self hn]
    rfl
theorem w_terms_table {L : LH} {hs sg : List Int} {ks : List (List Int)} {size : Nat} (hh : Hs size hs) (h4 : hs.length ≤ 4) (hl : sg.length = hs.length) (hs1 : ∀ s ∈ sg, s = 1 ∨ s = -1) (hkl : ks.length ≤ 1000) (hk : ∀ k ∈ ks, k.length ≤ 1000 ∧ k.Pairwise (· < ·) ∧ ∀ o ∈ k, o ∈ hs)
    (hs2 : ks.Pairwise (fun x y => HT.lexLt x y = true)) (ha : ∀ t ∈ ks, ∀ k ∈ ks, k ≠ t → ∃ z ∈ k, z ∉ t) :
    Rw (F_terms_table K [.tup (pairsL hs sg), .tup (ks.map tupI), .int size] L) fun v L' => Ex' L L' ∧ ∃ n, v = .ref n ∧ L.length ≤ n ∧ L'[n]? = some (termsIns K (.tup (hs.map D.int)) (.tup (pairsL hs sg)) (.tup (ks.map tupI))) := by
  unfold F_terms_table m_terms_table
  rw [rw_fnD]
  show Sw (sSeq _ _ [some (.tup (pairsL hs sg)), some (.tup (ks.map tupI)), some (.int size), none, none, none] L) _ _
  rw [sw_seq, sw_asgN]
  refine rw_lc ?_
  rw [rw_src, rw_var rfl]
  refine rw_srcT ⟨pairsL hs sg, fun _ => true, fstD, by rw [pairs_len hl]; omega, fun L2 _ i _ => src_atT, fun d hd L2 x2 => ?_, fun L1 x1 c1 => ?_⟩
  · obtain ⟨z, s, _, _, rfl⟩ := pairs_mem hd
    refine ⟨_, rfl, rfl, Ex'.refl, fun _ => ?_⟩
    rw [rw_var rfl]
    exact ⟨rfl, Ex'.refl⟩
  rw [pairs_fst hl] at c1
  rw [sw_seq, sw_if, rw_bOr, rw_val, rw_op, rw_call, rw_cons, rw_var rfl, rw_nil]
  refine rw_lenL (lst_of c1) ?_
  rw [List.length_map, rw_k, rw_gtI]
  show if decide _ = true then _ else _
  rw [if_neg (by rw [decide_eq_false (by omega)]; decide), rw_not, rw_truL, rw_fn, rw_cons, rw_var rfl, rw_cons, rw_var rfl, rw_nil]
  refine if_len rfl ?_
  refine (w_groupI (.lst (lst_of c1)) (by omega) hh).mono fun v L2 hv => ?_
  obtain ⟨rfl, x2⟩ := hv
  show if (!true) = true then _ else _
  rw [if_neg (by decide), sw_nx, sw_seq, sw_if, rw_not, rw_truL]
  refine rw_ag ?_
  rw [rw_src, rw_var rfl]
  refine rw_srcT ⟨pairsL hs sg, fun _ => true, by rw [pairs_len hl]; omega, fun L2 _ i _ => src_atT, fun d hd L3 x3 => ?_, fun L3 x3 => ?_⟩
  · obtain ⟨z, s, _, hs3, rfl⟩ := pairs_mem hd
    refine ⟨_, rfl, ?_⟩
    show Rw (eOp (inD false) _ _ [some (.int z), some (.int s)] L3) _
    rw [rw_op, rw_var rfl, rw_tup]
    simp only [rw_cons, rw_k, rw_nil, rw_un]
    rw [show ∀ P : D → LH → Prop, Rw (negD (.int 1) L3) P = P (.int (-1)) L3 from fun _ => rfl]
    refine if_le (by show (2 : Nat) ≤ 100000; decide) ?_
    show Rw (inD false (.int s) (.tup ([1, -1].map D.int)) L3) _
    rw [rw_inI (ns := [1, -1]) rfl]
    refine ⟨?_, Ex'.refl⟩
    rw [decide_eq_true (by rcases hs1 s hs3 with q | q <;> simp [q])]
  rw [all_true]
  show if (!true) = true then _ else _
  rw [if_neg (by decide), sw_nx, sw_seq, sw_if, rw_not, rw_truL, rw_fn, rw_cons, rw_var rfl, rw_cons, rw_var rfl, rw_nil]
  refine if_len rfl ?_
  refine (w_are_terms (x3.lst (x2.lst (lst_of c1))) hkl hk hs2 ha).mono fun v L4 hv => ?_
  obtain ⟨rfl, x4⟩ := hv
  show if (!true) = true then _ else _
  rw [if_neg (by decide), sw_nx, sw_ret]
  have x14 := ((x1.trans x2).trans x3).trans x4
  refine rw_mk ?_
  rw [rw_cons, rw_var rfl, rw_cons, rw_var rfl, rw_nil]
  refine ⟨rfl, w_TermsTable_init (by simp) h4 hl fun L5 h5 h6 => ⟨rfl, ?_⟩⟩
  refine ⟨x14.trans fun i c e => h5 i c ?_ (Ex'.app i c e), L4.length, rfl, x14.le, h6⟩
  have := (List.getElem?_eq_some_iff.mp e).1
  omega
end K26
set_option Elab.async false
set_option linter.all false
set_option maxRecDepth 100000
set_option maxHeartbeats 2000000
namespace K26
open PySem PySem.Spec PyProof.Rows L2 GxR DW GxA DI
variable {K : PySem.W.Frag}
/-- a new list of d's items, at lo or later -/
def NewL (lo : Nat) (L : LH) (d e : D) : Prop := ∃ xs n, d = .tup xs ∧ e = .ref n ∧ lo ≤ n ∧ lstAt L n = some xs
theorem NewL.mono {lo n0 : Nat} {L L2 : LH} {d e : D} (hn : n0 < lo) (x : ExB n0 L L2) (h : NewL lo L d e) : NewL lo L2 d e := by
  obtain ⟨xs, n, e1, e2, h1, h2⟩ := h
  refine ⟨xs, n, e1, e2, h1, ?_⟩
  unfold lstAt at h2 ⊢
  cases z : L[n]? with
  | none => rw [z] at h2; cases h2
  | some c =>
    rw [x n c (by omega) z]
    rw [z] at h2
    exact h2
theorem NewL.up {lo : Nat} {L L2 : LH} {d e : D} (x : Ex' L L2) (h : NewL lo L d e) : NewL lo L2 d e := by
  obtain ⟨xs, n, e1, e2, h1, h2⟩ := h
  exact ⟨xs, n, e1, e2, h1, x.lst h2⟩
theorem rw_listD {P : D → LH → Prop} {L : LH} {d : D} {xs : List D} (h : Is L d xs) (hp : ∀ L2, Ex' L L2 → L2[L.length]? = some (.lst true xs) → P (.ref L.length) L2) : Rw (listD [d] L) P := by
  unfold listD
  simp only [h.seq]
  exact hp _ Ex'.app (by simp)
theorem w_listsOf {P : D → LH → Prop} {L : LH} {mi : Sl → LH → DI.R Src} {env : Sl} {i : Nat} {xs : List D} (hi : i < env.length) (hl : xs.length ≤ 100000) (ht : ∀ d ∈ xs, ∃ ys, d = .tup ys)
    (hs : Rw (mi env L) fun src L1 => (∀ L2, Ex' L1 L2 → ∀ i, i ≤ xs.length → src.at L2 i = some xs[i]?) ∧ ∀ L2 es, Ex' L1 L2 → L2[L1.length]? = some (.lst true es) → Al2 (NewL (L1.length + 1) L2) xs es → P (.ref L1.length) L2) :
    Rw (eLc mi (gNm i) bYes (eCall listD (aCons (eVar i) aNil)) [i] env L) P := by
  refine rw_lcR (hs.mono fun src L1 h => ?_)
  refine ⟨xs, NewL (L1.length + 1), hl, h.1, fun d e L2 L3 x q => q.mono (Nat.lt_succ_self _) x, fun d hd L2 x2 hn => ?_, h.2⟩
  obtain ⟨ys, rfl⟩ := ht d hd
  refine ⟨_, rfl, rfl, Ex'.refl, ?_⟩
  have e : ((wipeE env [i]).set i (some (.tup ys)))[i]? = some (some (.tup ys)) := by
    rw [List.getElem?_set_self]
    show i < (env.set i none).length
    rw [List.length_set]
    exact hi
  rw [rw_call, rw_cons, rw_var e, rw_nil]
  refine rw_listD (.tup ys) fun L3 x3 c3 => ⟨x3, ys, L2.length, rfl, rfl, hn, lst_of c3⟩
/-- the list form of a row -/
inductive LRow (lo : Nat) (L : LH) : D → D → Prop
  | rows {a b c : Nat} {hs bits : List Int} : lo ≤ a → lo ≤ b → lo ≤ c → lstAt L a = some [.str "rows", .ref b, .ref c] → lstAt L b = some (hs.map D.int) → lstAt L c = some (bits.map D.int) → LRow lo L (.tup [.str "rows", .tup (hs.map D.int), .tup (bits.map D.int)]) (.ref a)
  | terms {a b c : Nat} {ps ts es fs : List D} : lo ≤ a → lo ≤ b → lo ≤ c → lstAt L a = some [.str "terms", .ref b, .ref c] → lstAt L b = some es → lstAt L c = some fs → Al2 (NewL lo L) ps es → Al2 (NewL lo L) ts fs → LRow lo L (.tup [.str "terms", .tup ps, .tup ts]) (.ref a)
theorem w_lists {L : LH} {size : Int} {row : D} (h : RowOk size row) : Rw (F__law_lists K [row] L) fun v L' => Ex' L L' ∧ LRow L.length L' row v := by
  unfold F__law_lists m__law_lists
  rw [rw_fnD]
  show Sw (sSeq _ _ [some row, none, none] L) _ _
  cases h with
  | rows hs bits hh h4 hb h01 =>
    rw [sw_seq, sw_if, rw_val, rw_op, rw_op, rw_var rfl, rw_k]
    refine rw_ixT (k := 0) (d := .str "rows") rfl rfl ?_
    rw [rw_k, rw_strEq (by decide +kernel) (by decide +kernel)]
    show if (("rows" : PySem.Str) == "rows") = true then _ else _
    rw [if_pos (by decide +kernel), sw_ret]
    refine rw_lstW ?_
    rw [rw_cons, rw_k, rw_cons, rw_call, rw_cons, rw_op, rw_var rfl, rw_k]
    refine rw_ixT (k := 1) (d := .tup (hs.map D.int)) rfl rfl ?_
    rw [rw_nil]
    refine rw_listD (.tup _) fun L1 x1 c1 => ?_
    rw [rw_cons, rw_call, rw_cons, rw_op, rw_var rfl, rw_k]
    refine rw_ixT (k := 2) (d := .tup (bits.map D.int)) rfl rfl ?_
    rw [rw_nil]
    refine rw_listD (.tup _) fun L2 x2 c2 => ?_
    rw [rw_nil]
    refine ⟨by show (3 : Nat) ≤ 100000; decide, fun L3 x3 c3 => ⟨(x1.trans x2).trans x3, ?_⟩⟩
    exact LRow.rows (Nat.le_trans x1.le x2.le) (Nat.le_refl _) x1.le (lst_of c3) (lst_of (x3 _ _ (x2 _ _ c1))) (lst_of (x3 _ _ c2))
  | terms hs sg ms ks hh h4 hl hs1 hm ht hkl =>
    rw [sw_seq, sw_if, rw_val, rw_op, rw_op, rw_var rfl, rw_k]
    refine rw_ixT (k := 0) (d := .str "terms") rfl rfl ?_
    rw [rw_k, rw_strEq (by decide +kernel) (by decide +kernel)]
    show if (("terms" : PySem.Str) == "rows") = true then _ else _
    rw [if_neg (by decide +kernel), sw_nx, sw_ret]
    refine rw_lstW ?_
    rw [rw_cons, rw_k, rw_cons]
    refine w_listsOf (xs := pairsL hs sg) (by show (1 : Nat) < 3; decide) (by rw [pairs_len hl]; omega) (fun d hd => by obtain ⟨z, s, _, _, rfl⟩ := pairs_mem hd; exact ⟨_, rfl⟩) ?_
    rw [rw_src, rw_op, rw_var rfl, rw_k]
    refine rw_ixT (k := 1) (d := .tup (pairsL hs sg)) rfl rfl ?_
    refine rw_srcT ⟨fun L2 _ i _ => src_atT, fun L1 es x1 c1 a1 => ?_⟩
    rw [rw_cons]
    refine w_listsOf (xs := (sortL ks).map tupI) (by show (2 : Nat) < 3; decide) (by rw [List.length_map, (sortL_perm ks).length_eq]; omega) (fun d hd => by obtain ⟨k, _, rfl⟩ := List.mem_map.mp hd; exact ⟨_, rfl⟩) ?_
    rw [rw_src, rw_op, rw_var rfl, rw_k]
    refine rw_ixT (k := 2) (d := .tup ((sortL ks).map tupI)) rfl rfl ?_
    refine rw_srcT ⟨fun L2 _ i _ => src_atT, fun L2 fs x2 c2 a2 => ?_⟩
    rw [rw_nil]
    refine ⟨by show (3 : Nat) ≤ 100000; decide, fun L3 x3 c3 => ⟨(x1.trans x2).trans x3, ?_⟩⟩
    have lo1 : ∀ (m : Nat) (d e : D), L.length ≤ m → NewL (m + 1) L3 d e → NewL L.length L3 d e := fun m d e hm q => by
      obtain ⟨xs, n, e1, e2, h1, h2⟩ := q
      exact ⟨xs, n, e1, e2, by omega, h2⟩
    exact LRow.terms (Nat.le_trans x1.le x2.le) (Nat.le_refl _) x1.le (lst_of c3) (lst_of (x3 _ _ (x2 _ _ c1))) (lst_of (x3 _ _ c2))
      ⟨a1.1, fun i d e q1 q2 => lo1 _ _ _ (Nat.le_refl _) ((a1.2 i d e q1 q2).up (x2.trans x3))⟩ ⟨a2.1, fun i d e q1 q2 => lo1 _ _ _ x1.le ((a2.2 i d e q1 q2).up x3)⟩
end K26
set_option Elab.async false
set_option linter.all false
set_option maxRecDepth 100000
set_option maxHeartbeats 2000000
namespace K26
open PySem PySem.Spec PyProof.Rows L2 GxR DW GxA DI
variable {K : PySem.W.Frag}
theorem gTp3 {L : LH} {env : Sl} {d x y z : D} {i j k : Nat} (h : seqD L d = some [x, y, z]) : gTp 3 (gCon (gNm i) (gCon (gNm j) (gCon (gNm k) gNil'))) L env d = some (((env.set i (some x)).set j (some y)).set k (some z)) := by
  unfold gTp
  rw [h]
  rfl
theorem gTp2 {L : LH} {env : Sl} {d x y : D} {i j : Nat} (h : seqD L d = some [x, y]) : gTp 2 (gCon (gNm i) (gCon (gNm j) gNil')) L env d = some ((env.set i (some x)).set j (some y)) := by
  unfold gTp
  rw [h]
  rfl
def tupOf (L : LH) (d : D) : D := .tup ((seqD L d).getD [])
theorem tupOf_new {lo : Nat} {L : LH} {d e : D} (h : NewL lo L d e) : tupOf L e = d := by
  obtain ⟨xs, n, rfl, rfl, _, h2⟩ := h
  unfold tupOf
  rw [seq_lst h2]
  rfl
theorem tupOf_all {lo : Nat} {L : LH} {ds es : List D} (h : Al2 (NewL lo L) ds es) : (es.filter fun _ => true).map (tupOf L) = ds := by
  rw [List.filter_eq_self.mpr fun _ _ => rfl]
  refine List.ext_getElem? fun i => ?_
  rw [List.getElem?_map]
  cases e1 : es[i]? with
  | none =>
    have := List.getElem?_eq_none_iff.mp e1
    have := h.1
    exact (List.getElem?_eq_none_iff.mpr (by omega)).symm
  | some e =>
    have hi : i < ds.length := by
      have := (List.getElem?_eq_some_iff.mp e1).1
      have := h.1
      omega
    rw [List.getElem?_eq_getElem hi]
    show some (tupOf L e) = _
    rw [tupOf_new (h.2 i _ e (List.getElem?_eq_getElem hi) e1)]
/-- the instance that a row becomes -/
inductive TCell (K : PySem.W.Frag) : D → Cell → Prop
  | rows (hs bits : List Int) : TCell K (.tup [.str "rows", .tup (hs.map D.int), .tup (bits.map D.int)]) (rowsIns K (.tup (hs.map D.int)) (.tup (bits.map D.int)))
  | terms (hs sg : List Int) (ts : List D) : sg.length = hs.length → TCell K (.tup [.str "terms", .tup (pairsL hs sg), .tup ts]) (termsIns K (.tup (hs.map D.int)) (.tup (pairsL hs sg)) (.tup ts))
theorem w_table_of {L : LH} {lo : Nat} {size : Nat} {row d : D} (h : RowOk size row) (hr : LRow lo L row d) : Rw (F_table_of K [d, .int size] L) fun v L' => Ex' L L' ∧ ∃ n c, v = .ref n ∧ L.length ≤ n ∧ L'[n]? = some c ∧ TCell K row c := by
  unfold F_table_of m_table_of
  rw [rw_fnD]
  show Sw (sSeq _ _ [some d, some (.int (size : Int)), none, none, none, none, none, none, none] L) _ _
  cases h with
  | rows hs bits hh h4 hb h01 =>
    generalize er : D.tup [.str "rows", .tup (hs.map D.int), .tup (bits.map D.int)] = row at hr
    cases hr with
    | terms _ _ _ _ _ _ _ _ => exact absurd er (by intro q; injection q with q; injection q with q; injection q with q; exact absurd q (by decide +kernel))
    | @rows a b c hs' bits' l1 l2 l3 c1 c2 c3 =>
      injection er with er
      injection er with _ er
      injection er with er1 er
      injection er with er2 _
      rw [← er1, ← er2]
      rw [← D.tup.inj er1] at c2
      rw [← D.tup.inj er2] at c3
      clear er1 er2
      rw [sw_seq, sw_asg, rw_var rfl, gTp3 (seq_lst c1)]
      show Sw (sSeq _ _ [some (.ref a), some (.int (size : Int)), some (.str "rows"), some (.ref b), some (.ref c), none, none, none, none] L) _ _
      rw [sw_seq, sw_if, rw_val, rw_op, rw_var rfl, rw_k, rw_strEq (by decide +kernel) (by decide +kernel)]
      show if (("rows" : PySem.Str) == "rows") = true then _ else _
      rw [if_pos (by decide +kernel), sw_ret, rw_fn, rw_cons, rw_call, rw_cons, rw_var rfl, rw_nil, rw_tupleL c2, rw_cons, rw_call, rw_cons, rw_var rfl, rw_nil, rw_tupleL c3, rw_cons, rw_var rfl, rw_nil]
      refine if_len rfl ?_
      refine (w_rows_table hh h4 hb h01).mono fun v L1 hv => ?_
      obtain ⟨x, n, rfl, hn, hc⟩ := hv
      exact ⟨x, n, _, rfl, hn, hc, TCell.rows hs bits⟩
  | terms hs sg ms ks hh h4 hl hs1 hm ht hkl =>
    generalize er : D.tup [.str "terms", .tup (List.zipWith pairI hs sg), .tup ((sortL ks).map tupI)] = row at hr
    cases hr with
    | rows _ _ _ _ _ _ => exact absurd er (by intro q; injection q with q; injection q with q; injection q with q; exact absurd q (by decide +kernel))
    | @terms a b c ps ts es fs l1 l2 l3 c1 c2 c3 a1 a2 =>
      injection er with er
      injection er with _ er
      injection er with er1 er
      injection er with er2 _
      have ep := D.tup.inj er1
      have et := D.tup.inj er2
      subst ep et
      clear er1 er2
      rw [sw_seq, sw_asg, rw_var rfl, gTp3 (seq_lst c1)]
      show Sw (sSeq _ _ [some (.ref a), some (.int (size : Int)), some (.str "terms"), some (.ref b), some (.ref c), none, none, none, none] L) _ _
      rw [sw_seq, sw_if, rw_val, rw_op, rw_var rfl, rw_k, rw_strEq (by decide +kernel) (by decide +kernel)]
      show if (("terms" : PySem.Str) == "rows") = true then _ else _
      rw [if_neg (by decide +kernel), sw_nx, sw_seq, sw_if, rw_val, rw_op, rw_var rfl, rw_k, rw_strEq (by decide +kernel) (by decide +kernel)]
      show if (("terms" : PySem.Str) == "terms") = true then _ else _
      rw [if_pos (by decide +kernel), sw_seq, sw_asgN, rw_call, rw_cons]
      have hle : es.length ≤ 4 := by rw [a1.1]; show (pairsL hs sg).length ≤ 4; rw [pairs_len hl]; exact h4
      have hlf : fs.length ≤ 16 := by rw [a2.1, List.length_map, (sortL_perm ks).length_eq]; exact hkl
      refine rw_lc ?_
      rw [rw_src, rw_var rfl]
      refine rw_srcL c2 ⟨es, fun _ => true, tupOf L, by omega, fun L2 x2 i _ => src_atL (x2.lst c2), fun e he L2 x2 => ?_, fun L1 x1 d1 => ?_⟩
      · obtain ⟨i, hi⟩ := List.getElem?_of_mem he
        have hi2 : i < (pairsL hs sg).length := by
          have q1 := (List.getElem?_eq_some_iff.mp hi).1
          have q2 : es.length = (pairsL hs sg).length := a1.1
          omega
        obtain ⟨xs, n, e1, e2, _, e3⟩ := a1.2 i _ e (List.getElem?_eq_getElem hi2) hi
        obtain ⟨z, s, _, _, e4⟩ := pairs_mem (List.getElem_mem hi2)
        have e5 : xs = [.int z, .int s] := by
          have q := e1.symm.trans e4
          exact D.tup.inj q
        subst e2 e5
        refine ⟨_, gTp2 (seq_lst (x2.lst e3)), rfl, Ex'.refl, fun _ => ?_⟩
        rw [rw_tup]
        simp only [rw_cons, rw_nil]
        rw [rw_var rfl, rw_var rfl]
        refine if_le (by show (2 : Nat) ≤ 100000; decide) ⟨?_, Ex'.refl⟩
        unfold tupOf
        rw [seq_lst e3]
        rfl
      rw [tupOf_all a1] at d1
      rw [rw_nil, rw_tupleL (lst_of d1), sw_ret, rw_fn, rw_cons, rw_var rfl, rw_cons, rw_call, rw_cons]
      refine rw_lc ?_
      rw [rw_src, rw_var rfl]
      refine rw_srcL (x1.lst c3) ⟨fs, fun _ => true, tupOf L, by omega, fun L2 x2 i _ => src_atL (x2.lst (x1.lst c3)), fun e he L2 x2 => ?_, fun L2 x2 d2 => ?_⟩
      · obtain ⟨i, hi⟩ := List.getElem?_of_mem he
        have hi2 : i < ((sortL ks).map tupI).length := by
          have q1 := (List.getElem?_eq_some_iff.mp hi).1
          have q2 := a2.1
          omega
        obtain ⟨xs, n, e1, e2, _, e3⟩ := a2.2 i _ e (List.getElem?_eq_getElem hi2) hi
        subst e2
        refine ⟨_, rfl, rfl, Ex'.refl, fun _ => ?_⟩
        rw [rw_call, rw_cons, rw_var rfl, rw_nil, rw_tupleL (x2.lst (x1.lst e3))]
        refine ⟨?_, Ex'.refl⟩
        unfold tupOf
        rw [seq_lst e3]
        rfl
      rw [tupOf_all a2] at d2
      rw [rw_nil, rw_tupleL (lst_of d2), rw_cons, rw_var rfl, rw_nil]
      refine if_len rfl ?_
      obtain ⟨g1, g2, g3⟩ := terms_good hh hm h4 ht
      refine (w_terms_table hh h4 hl hs1 (by rw [(sortL_perm ks).length_eq]; omega) g1 g2 g3).mono fun v L3 hv => ?_
      obtain ⟨x, n, rfl, hn, hc⟩ := hv
      exact ⟨(x1.trans x2).trans x, n, _, rfl, Nat.le_trans (x1.trans x2).le hn, hc, TCell.terms hs sg _ hl⟩
end K26
set_option Elab.async false
set_option linter.all false
set_option maxRecDepth 100000
set_option maxHeartbeats 2000000
namespace K26
open PySem PySem.Spec PyProof.Rows L2 GxR DW GxA DI
variable {K : PySem.W.Frag}
theorem sw_asgE {m : Sl → LH → DI.R D} {f : LH → Sl → D → Option Sl} {env : Sl} {L : LH} {P : Sl → LH → Prop} {Q : D → LH → Prop} (h : Rw (m env L) fun d L1 => ∃ e, f L1 env d = some e ∧ P e L1) : Sw (sAsg m f env L) P Q := by
  rw [sw_asg]
  refine h.mono fun d L1 q => ?_
  obtain ⟨e, e1, e2⟩ := q
  rw [e1]
  exact e2
theorem TCell.ins {row : D} {c : Cell} (h : TCell K row c) : ∃ C fs, c = .ins C fs := by
  cases h with
  | rows => exact ⟨_, _, rfl⟩
  | terms => exact ⟨_, _, rfl⟩
/-- the instance of a row -/
def Tab (K : PySem.W.Frag) (L : LH) (row e : D) : Prop := ∃ n c, e = .ref n ∧ L[n]? = some c ∧ TCell K row c
theorem Tab.up {L L2 : LH} {row e : D} (h : Tab K L row e) (x : Ex' L L2) : Tab K L2 row e := by
  obtain ⟨n, c, e1, e2, e3⟩ := h
  exact ⟨n, c, e1, x _ _ e2, e3⟩
theorem w_tables {L : LH} {r lo : Nat} {rows ds : List D} (hr : lstAt L r = some ds) (hrow : ∀ row ∈ rows, RowOk rows.length row) (hl : rows.length ≤ 12) (ha : Al2 (LRow lo L) rows ds) (hmono : ∀ row d L2, LRow lo L row d → Ex' L L2 → LRow lo L2 row d) :
    Rw (F_tables_of_web K [.ref r] L) fun v L' => Ex' L L' ∧ ∃ ts, v = .tup ts ∧ Al2 (Tab K L') rows ts := by
  unfold F_tables_of_web m_tables_of_web
  rw [rw_fnD]
  show Sw (sSeq _ _ [some (.ref r), none, none, none] L) _ _
  rw [sw_seq, sw_asgN, rw_lst, rw_nil, if_pos (by decide)]
  rw [sw_seq, sw_for, rw_arg, rw_cons, rw_var rfl, rw_nil]
  have x0 : Ex' L (L ++ [Cell.lst true []]) := Ex'.app
  have c0 : (L ++ [Cell.lst true []])[L.length]? = some (.lst true []) := by simp
  generalize L ++ [Cell.lst true []] = L0 at x0 c0 ⊢
  have en : ∀ P : Src → LH → Prop, P (.enum (.l r)) L0 → Rw (enumD [.ref r] L0) P := fun P hp => by
    show Rw (match sqD (.ref r) with | some s => (match s.get L0 with | some _ => DI.R.ok (Src.enum s) L0 | none => .bad) | none => .bad) P
    show Rw (match lstAt L0 r with | some _ => DI.R.ok (Src.enum (.l r)) L0 | none => .bad) P
    rw [x0.lst hr]
    exact hp
  refine en _ ?_
  have hdl : ds.length = rows.length := ha.1
  refine forD_w (xs := (List.range ds.length).map fun i => D.tup [.int (i : Nat), ds.getD i .non])
    (fun i env L' => ∃ s2 s3 acc, env = [some (.ref r), some (.ref L.length), s2, s3] ∧ Ex' L L' ∧ L'[L.length]? = some (.lst true acc) ∧ acc.length = i ∧ ∀ (j : Nat) (row e : D), rows[j]? = some row → acc[j]? = some e → Tab K L' row e)
    (fun i env L' hi hI => ?_) (fun i env L' d hd hI => ?_) (fun env L' hI => ?_) turnsN 0 _ _ (by simp [turnsN]; omega) (Nat.zero_le _) ⟨none, none, [], rfl, x0, c0, rfl, fun j row e _ h => by simp at h⟩
  · obtain ⟨s2, s3, acc, rfl, x, c, hc, _⟩ := hI
    show (match lstAt L' r with | some xs => (match xs[i]? with | some x => some (some (D.tup [.int (i : Nat), x])) | none => if xs.length = i then some none else none) | none => none) = _
    rw [x.lst hr]
    rw [List.length_map, List.length_range] at hi
    by_cases q : i < ds.length
    · simp [q]
    · have e : ds.length = i := by omega
      simp [e]
  · obtain ⟨s2, s3, acc, rfl, x, c, hc, hacc⟩ := hI
    have hi : i < ds.length := by
      have := (List.getElem?_eq_some_iff.mp hd).1
      simpa using this
    have ed : d = .tup [.int (i : Nat), ds[i]] := by
      rw [List.getElem?_map, List.getElem?_range hi] at hd
      have := Option.some.inj hd
      rw [← this]
      simp [hi]
    subst ed
    refine ⟨_, gTp2 rfl, ?_⟩
    refine sw_try ?_
    have hi2 : i < rows.length := by omega
    rw [sw_drop, rw_bm, rw_var rfl, if_pos (isL_of c), rw_cons, rw_fn, rw_cons, rw_var rfl, rw_cons, rw_call, rw_cons, rw_var rfl, rw_nil]
    refine rw_lenL (x.lst hr) ?_
    rw [rw_nil, hdl]
    refine if_len rfl ?_
    refine (w_table_of (hrow _ (List.getElem_mem hi2)) (hmono _ _ L' (ha.2 i _ _ (List.getElem?_eq_getElem hi2) (List.getElem?_eq_getElem hi)) x)).mono fun v L1 hv => ?_
    obtain ⟨x1, n, tc, rfl, hn, htc, hT⟩ := hv
    rw [rw_nil]
    have c1 := x1 _ _ c
    refine rw_app c1 (by omega) ?_
    have hlt := (List.getElem?_eq_some_iff.mp c1).1
    have keep : ∀ row e, Tab K L1 row e → Tab K (L1.set L.length (.lst true (acc ++ [.ref n]))) row e := fun row e h => by
      obtain ⟨n2, c2, e1, e2, e3⟩ := h
      refine ⟨n2, c2, e1, ?_, e3⟩
      rw [List.getElem?_set_ne]
      · exact e2
      · intro q
        rw [← q, c1] at e2
        obtain ⟨C, fs, e4⟩ := e3.ins
        rw [e4] at e2
        cases e2
    refine ⟨_, _, _, rfl, (x.trans x1).set (Nat.le_refl _), List.getElem?_set_self hlt, by rw [List.length_append, List.length_singleton, hc], fun j row e q1 q2 => ?_⟩
    by_cases q : j < acc.length
    · rw [List.getElem?_append_left q] at q2
      exact keep _ _ ((hacc j row e q1 q2).up x1)
    · have hj : j = i := by
        have := (List.getElem?_eq_some_iff.mp q2).1
        rw [List.length_append, List.length_singleton] at this
        omega
      subst hj
      rw [List.getElem?_append_right (by omega), hc, Nat.sub_self] at q2
      cases q2
      rw [List.getElem?_eq_getElem hi2] at q1
      cases q1
      exact keep _ _ ⟨n, tc, rfl, htc, hT⟩
  · obtain ⟨s2, s3, acc, rfl, x, c, hc, hacc⟩ := hI
    rw [sw_ret, rw_call, rw_cons, rw_var rfl, rw_nil, rw_tupleL (lst_of c)]
    rw [List.length_map, List.length_range] at hc
    exact ⟨x, acc, rfl, by omega, hacc⟩
end K26
set_option Elab.async false
set_option linter.all false
set_option maxRecDepth 100000
set_option maxHeartbeats 2000000
namespace K26
open PySem PySem.Spec PyProof.Rows L2 GxR DW GxA DI
variable {K : PySem.W.Frag}
theorem LRow.up {lo : Nat} {L L2 : LH} {row d : D} (h : LRow lo L row d) (x : Ex' L L2) : LRow lo L2 row d := by
  cases h with
  | rows l1 l2 l3 c1 c2 c3 => exact .rows l1 l2 l3 (x.lst c1) (x.lst c2) (x.lst c3)
  | terms l1 l2 l3 c1 c2 c3 a1 a2 => exact .terms l1 l2 l3 (x.lst c1) (x.lst c2) (x.lst c3) ⟨a1.1, fun i d e q1 q2 => (a1.2 i d e q1 q2).up x⟩ ⟨a2.1, fun i d e q1 q2 => (a2.2 i d e q1 q2).up x⟩
theorem w_is_size {L : LH} {n : Nat} (h : 1 ≤ n ∧ n ≤ 12) : Rw (F_is_size K [.int n] L) fun v L' => v = .bl true ∧ Ex' L L' := by
  unfold F_is_size m_is_size
  rw [rw_fnD]
  show Sw (sRet _ [some (.int (n : Int))] L) _ _
  rw [sw_ret, rw_chain, rw_k, rw_var rfl, rw_leI]
  show if decide _ = true then _ else _
  rw [if_pos (decide_eq_true (by omega)), rw_k, rw_leI]
  exact ⟨by rw [decide_eq_true (by omega)], Ex'.refl⟩
/-- the web of these rows, at n -/
def WebAt (K : PySem.W.Frag) (L : LH) (rows : List D) (n : Nat) : Prop := ∃ ts, L[n]? = some (.ins (He.ga K "Web") [("size", .int rows.length), ("tables", .tup ts)]) ∧ Al2 (Tab K L) rows ts
theorem w_Web_init {L : LH} {r n lo : Nat} {rows ds : List D} (hc : L[n]? = some (.ins (He.ga K "Web") [])) (hr : lstAt L r = some ds) (hrow : ∀ row ∈ rows, RowOk rows.length row) (hl : 1 ≤ rows.length ∧ rows.length ≤ 12) (ha : Al2 (LRow lo L) rows ds) (hlo : n < lo ∨ True) {P : D → LH → Prop}
    (hmono : ∀ row d L2, ExB n L L2 → LRow lo L row d → LRow lo L2 row d) (hP : ∀ L2, ExB n L L2 → WebAt K L2 rows n → P .non L2) : Rw (F_Web_init K [.ref n, .ref r] L) P := by
  unfold F_Web_init m_Web_init
  rw [rw_fnD]
  show Sw (sSeq _ _ [some (.ref n), some (.ref r)] L) _ _
  rw [sw_seq, sw_if, rw_not, rw_truL, rw_fn, rw_cons, rw_call, rw_cons, rw_var rfl, rw_nil]
  refine rw_lenL hr ?_
  rw [rw_nil, ha.1]
  refine if_len rfl ?_
  refine (w_is_size hl).mono fun v L1 hv => ?_
  obtain ⟨rfl, x1⟩ := hv
  show if (!true) = true then _ else _
  rw [if_neg (by decide), sw_nx, sw_seq]
  have c1 := x1 _ _ hc
  have hn := (List.getElem?_eq_some_iff.mp c1).1
  refine sw_fldS ?_
  rw [rw_call, rw_cons, rw_var rfl, rw_nil]
  refine rw_lenL (x1.lst hr) ?_
  rw [rw_var rfl, ha.1]
  refine ⟨n, _, _, rfl, c1, by decide, cf_of (fs := ["size", "tables"]) (by decide) (by decide), ?_⟩
  have ne : r ≠ n := fun q => by
    subst q
    unfold lstAt at hr
    rw [hc] at hr
    cases hr
  have xb2 : ExB n L (L1.set n (.ins (He.ga K "Web") (putD "size" (.int rows.length) []))) := fun i c h e => by
    rw [List.getElem?_set_ne (Ne.symm h)]
    exact x1 _ _ e
  have c2 : (L1.set n (.ins (He.ga K "Web") (putD "size" (.int rows.length) [])))[n]? = some (.ins (He.ga K "Web") [("size", .int rows.length)]) := List.getElem?_set_self hn
  have hr2 : lstAt (L1.set n (.ins (He.ga K "Web") (putD "size" (.int rows.length) []))) r = some ds := by
    unfold lstAt at hr ⊢
    cases e : L[r]? with
    | none => rw [e] at hr; cases hr
    | some c => rw [xb2 r c ne e]; rw [e] at hr; exact hr
  generalize L1.set n (.ins (He.ga K "Web") (putD "size" (.int rows.length) [])) = L2 at xb2 c2 hr2 ⊢
  refine sw_fldS ?_
  rw [rw_fn, rw_cons, rw_var rfl, rw_nil]
  refine if_len rfl ?_
  refine (w_tables hr2 hrow hl.2 ⟨ha.1, fun i d e q1 q2 => hmono _ _ _ xb2 (ha.2 i d e q1 q2)⟩ (fun row d L3 h x => h.up x)).mono fun v L3 hv => ?_
  obtain ⟨x3, ts, rfl, hT⟩ := hv
  rw [rw_var rfl]
  have c3 := x3 _ _ c2
  have hn3 := (List.getElem?_eq_some_iff.mp c3).1
  refine ⟨n, _, _, rfl, c3, by show (1 : Nat) < 1000; decide, cf_of (fs := ["size", "tables"]) (by decide) (by decide), ?_⟩
  refine hP _ (fun i c h e => ?_) ⟨ts, List.getElem?_set_self hn3, hT.1, fun i row e q1 q2 => ?_⟩
  · rw [List.getElem?_set_ne (Ne.symm h)]
    exact x3 _ _ (xb2 _ _ h e)
  · obtain ⟨m, c, e1, e2, e3⟩ := hT.2 i row e q1 q2
    refine ⟨m, c, e1, ?_, e3⟩
    rw [List.getElem?_set_ne]
    · exact e2
    · intro q
      rw [← q, c3] at e2
      have z := Option.some.inj e2
      rw [← z] at e3
      generalize hz : Cell.ins (He.ga K "Web") [("size", D.int rows.length)] = cc at e3
      cases e3 with
      | rows => injection hz with _ hz; injection hz with _ hz; cases hz
      | terms => injection hz with _ hz; injection hz with _ hz; cases hz
end K26
set_option Elab.async false
set_option linter.all false
set_option maxRecDepth 100000
set_option maxHeartbeats 2000000
namespace K26
open PySem PySem.Spec PyProof.Rows L2 GxR DW GxA DI
variable {K : PySem.W.Frag}
def idx (ds : List Int) : Int := ds.foldl (fun a d => 2 * a + d) 0
def holdsT (hs sg ds t : List Int) : Bool := (List.range hs.length).all fun i => !decide (hs.getD i 0 ∈ t) || decide (ds.getD i 0 = (sg.getD i 0 + 1).fdiv 2)
/-- the houses of a row, its digit for digits -/
inductive RowF : D → List Int → (List Int → Int) → Prop
  | rows (hs bits : List Int) : RowF (.tup [.str "rows", .tup (hs.map D.int), .tup (bits.map D.int)]) hs fun ds => bits.getD (idx ds).toNat 0
  | terms (hs sg : List Int) (ks : List (List Int)) : sg.length = hs.length → RowF (.tup [.str "terms", .tup (pairsL hs sg), .tup (ks.map tupI)]) hs fun ds => if ks.any (holdsT hs sg ds) = true then 1 else 0
theorem RowOk.fn {size : Int} {row : D} (h : RowOk size row) : ∃ hs f, RowF row hs f ∧ Hs size hs ∧ hs.length ≤ 4 := by
  cases h with
  | rows hs bits hh h4 hb h01 => exact ⟨hs, _, .rows hs bits, hh, h4⟩
  | terms hs sg ms ks hh h4 hl hs1 hm ht hkl => exact ⟨hs, _, .terms hs sg (sortL ks) hl, hh, h4⟩
theorem w_houses {L : LH} {row : D} {hs : List Int} {f : List Int → Int} (h : RowF row hs f) (h4 : hs.length ≤ 4) : Rw (F__law_house_numbers K [row] L) fun v L' => v = .tup (hs.map D.int) ∧ Ex' L L' := by
  unfold F__law_house_numbers m__law_house_numbers
  rw [rw_fnD]
  show Sw (sSeq _ _ [some row, none] L) _ _
  cases h with
  | rows hs bits =>
    rw [sw_seq, sw_if, rw_val, rw_op, rw_op, rw_var rfl, rw_k]
    refine rw_ixT (k := 0) (d := .str "rows") rfl rfl ?_
    rw [rw_k, rw_strEq (by decide +kernel) (by decide +kernel)]
    show if (("rows" : PySem.Str) == "rows") = true then _ else _
    rw [if_pos (by decide +kernel), sw_ret, rw_op, rw_var rfl, rw_k]
    exact rw_ixT (k := 1) (d := .tup (hs.map D.int)) rfl rfl ⟨rfl, Ex'.refl⟩
  | terms hs sg ks hl =>
    rw [sw_seq, sw_if, rw_val, rw_op, rw_op, rw_var rfl, rw_k]
    refine rw_ixT (k := 0) (d := .str "terms") rfl rfl ?_
    rw [rw_k, rw_strEq (by decide +kernel) (by decide +kernel)]
    show if (("terms" : PySem.Str) == "rows") = true then _ else _
    rw [if_neg (by decide +kernel), sw_nx, sw_ret, rw_call, rw_cons]
    refine rw_lc ?_
    rw [rw_src, rw_op, rw_var rfl, rw_k]
    refine rw_ixT (k := 1) (d := .tup (pairsL hs sg)) rfl rfl ?_
    refine rw_srcT ⟨pairsL hs sg, fun _ => true, fstD, by rw [pairs_len hl]; omega, fun L2 _ i _ => src_atT, fun d hd L2 x2 => ?_, fun L2 x2 c2 => ?_⟩
    · obtain ⟨z, s, _, _, rfl⟩ := pairs_mem hd
      refine ⟨_, rfl, rfl, Ex'.refl, fun _ => ?_⟩
      rw [rw_op, rw_var rfl, rw_k]
      show Rw (ixD (.tup [.int z, .int s]) (.int 0) L2) _
      exact rw_ixT (k := 0) (d := .int z) rfl rfl ⟨rfl, Ex'.refl⟩
    rw [pairs_fst hl] at c2
    rw [rw_nil, rw_tupleL (lst_of c2)]
    exact ⟨rfl, x2⟩
/-- digits: noughts and ones -/
def Dig (ds : List Int) : Prop := ∀ d ∈ ds, d = 0 ∨ d = 1
theorem idx_snoc {ds : List Int} {d : Int} : idx (ds ++ [d]) = 2 * idx ds + d := by
  unfold idx
  rw [List.foldl_append]
  rfl
theorem idx_bd : ∀ {n : Nat} {ds : List Int}, ds.length = n → Dig ds → 0 ≤ idx ds ∧ idx ds < 2 ^ n
  | 0, ds, e, _ => by
    have : ds = [] := List.length_eq_zero_iff.mp e
    subst this
    exact ⟨by decide, by decide⟩
  | n + 1, ds, e, h => by
    have hne : ds ≠ [] := by
      intro q
      rw [q] at e
      cases e
    obtain ⟨a, b, rfl⟩ : ∃ a b, ds = a ++ [b] := ⟨ds.dropLast, ds.getLast hne, (List.dropLast_concat_getLast hne).symm⟩
    have ea : a.length = n := by
      rw [List.length_append, List.length_singleton] at e
      omega
    have ih := idx_bd ea fun d hd => h d (List.mem_append_left _ hd)
    have hb := h b (by simp)
    rw [idx_snoc, Int.pow_succ]
    constructor
    · rcases hb with q | q <;> omega
    · rcases hb with q | q <;> omega
theorem w_rows_digit {L : LH} {n : Nat} {dref : D} {hs bits ds : List Int} (hc : L[n]? = some (rowsIns K (.tup (hs.map D.int)) (.tup (bits.map D.int)))) (hd : Is L dref (ds.map D.int)) (hD : Dig ds) (hl : ds.length = hs.length) (h4 : hs.length ≤ 4) (hb : bits.length = 2 ^ hs.length) :
    Rw (F_RowsTable_digit_for K [.ref n, dref] L) fun v L' => v = .int (bits.getD (idx ds).toNat 0) ∧ Ex' L L' := by
  unfold F_RowsTable_digit_for m_RowsTable_digit_for
  rw [rw_fnD]
  show Sw (sSeq _ _ [some (.ref n), some dref, none, none] L) _ _
  rw [sw_seq, sw_asgN, rw_k, sw_seq, sw_for, rw_src, rw_var rfl]
  refine rw_srcS hd fun src hat => ?_
  refine forD_w (xs := ds.map D.int) (fun i env L' => ∃ s3, env = [some (.ref n), some dref, some (.int (idx (ds.take i))), s3] ∧ Ex' L L') (fun i env L' hi hI => by obtain ⟨s3, rfl, x⟩ := hI; exact hat L' x i hi) (fun i env L' d hd2 hI => ?_) (fun env L' hI => ?_) turnsN 0 _ _ (by simp [turnsN]; omega) (Nat.zero_le _) ⟨none, rfl, Ex'.refl⟩
  · obtain ⟨s3, rfl, x⟩ := hI
    rw [List.getElem?_map] at hd2
    obtain ⟨z, hz, rfl⟩ := Option.map_eq_some_iff.mp hd2
    refine ⟨_, rfl, ?_⟩
    have hi : i < ds.length := (List.getElem?_eq_some_iff.mp hz).1
    have b := idx_bd (n := i) (ds := ds.take i) (by rw [List.length_take]; omega) fun d hd => hD d (List.mem_of_mem_take hd)
    have b16 : (2 : Int) ^ i ≤ 16 := by
      have : i ≤ 4 := by omega
      match i, this with
      | 0, _ | 1, _ | 2, _ | 3, _ | 4, _ => decide
    rw [sw_asgN, rw_op, rw_op, rw_k, rw_var rfl]
    have q1 : CMulX 2 (idx (ds.take i)) := cmulx_small (by omega) (by omega) (by omega) (by omega)
    rw [rw_mulE q1, rw_var rfl, rw_addI]
    refine ⟨some (.int z), ?_, x⟩
    rw [List.take_succ, hz]
    show _ = [_, _, some (D.int (idx (ds.take i ++ [z]))), _]
    rw [idx_snoc]
    rfl
  · obtain ⟨s3, rfl, x⟩ := hI
    rw [List.length_map, List.take_length]
    have b := idx_bd hl hD
    have hb2 : (idx ds).toNat < bits.length := by
      have e : ((2 ^ hs.length : Nat) : Int) = 2 ^ hs.length := by rw [Int.natCast_pow]; rfl
      rw [hb]
      omega
    rw [sw_ret, rw_op]
    refine rw_fld ?_
    rw [rw_var rfl]
    refine ⟨n, _, _, _, rfl, x _ _ hc, rfl, cf_of (fs := ["bits", "heard"]) (by decide) (by decide), ?_⟩
    rw [rw_var rfl]
    refine rw_ixT (k := (idx ds).toNat) (map_at (List.getElem?_eq_getElem hb2)) (by omega) ⟨?_, x⟩
    congr 1
    simp [hb2]
end K26
set_option Elab.async false
set_option linter.all false
set_option maxRecDepth 100000
set_option maxHeartbeats 2000000
namespace K26
open PySem PySem.Spec PyProof.Rows L2 GxR DW GxA DI
variable {K : PySem.W.Frag}
def seen (st hs : List Int) : List Int := hs.map fun h => st.getD h.toNat 0
def missD (st t : List Int) (d : D) : Bool := match d with
  | .tup [.int z, .int s] => decide (z ∈ t) && !decide (st.getD z.toNat 0 = (s + 1).fdiv 2)
  | _ => false
theorem miss_holds {st hs sg t : List Int} (hl : sg.length = hs.length) : ((pairsL hs sg).filter (missD st t)).isEmpty = holdsT hs sg (seen st hs) t := by
  rw [Bool.eq_iff_iff, List.isEmpty_iff, List.filter_eq_nil_iff]
  unfold holdsT
  rw [List.all_eq_true]
  constructor
  · intro h i hi
    have hi2 := List.mem_range.mp hi
    have hi3 : i < sg.length := by omega
    have m : pairI hs[i] sg[i] ∈ pairsL hs sg := by
      refine List.mem_of_getElem? (i := i) ?_
      unfold pairsL
      rw [List.getElem?_zipWith, List.getElem?_eq_getElem hi2, List.getElem?_eq_getElem hi3]
    have q := h _ m
    unfold missD pairI at q
    simp only [seen]
    simp [hi2, hi3] at q ⊢
    by_cases c : hs[i] ∈ t
    · exact .inr (q c)
    · exact .inl c
  · intro h d hd
    unfold pairsL at hd
    obtain ⟨i, hi⟩ := List.getElem?_of_mem hd
    rw [List.getElem?_zipWith] at hi
    cases e1 : hs[i]? with
    | none => rw [e1] at hi; cases hi
    | some a =>
      cases e2 : sg[i]? with
      | none => rw [e1, e2] at hi; cases hi
      | some b =>
        rw [e1, e2] at hi
        have ed : pairI a b = d := Option.some.inj hi
        subst ed
        obtain ⟨h1, rfl⟩ := List.getElem?_eq_some_iff.mp e1
        obtain ⟨h2, rfl⟩ := List.getElem?_eq_some_iff.mp e2
        have q := h i (List.mem_range.mpr h1)
        simp only [seen] at q
        unfold missD pairI
        simp [h1, h2] at q ⊢
        intro c
        rcases q with q | q
        · exact absurd c q
        · exact q
theorem w_value {L : LH} {m size : Nat} {row : D} {hs st : List Int} {f : List Int → Int} (hr : RowOk size row) (h : RowF row hs f) (hst : lstAt L m = some (st.map D.int)) (hsz : st.length = size) (h4 : hs.length ≤ 4) (hh : Hs size hs) (hD : Dig st) :
    Rw (F__law_value K [row, .ref m] L) fun v L' => v = .int (f (seen st hs)) ∧ Ex' L L' := by
  have hin : ∀ z ∈ hs, ∃ k : Nat, z = k ∧ k < st.length ∧ (st.map D.int)[k]? = some (.int (st.getD z.toNat 0)) := fun z hz => by
    obtain ⟨h1, h2⟩ := hh.2 z hz
    obtain ⟨k, rfl⟩ := Int.eq_ofNat_of_zero_le h1
    have hk : k < st.length := by omega
    exact ⟨k, rfl, hk, by rw [map_at (List.getElem?_eq_getElem hk), Int.toNat_natCast]; simp [hk]⟩
  have hDs : Dig (seen st hs) := fun d hd => by
    obtain ⟨z, hz, rfl⟩ := List.mem_map.mp hd
    obtain ⟨k, rfl, hk, _⟩ := hin z hz
    rw [Int.toNat_natCast, show st.getD k 0 = st[k] by simp [hk]]
    exact hD _ (List.getElem_mem hk)
  unfold F__law_value m__law_value
  rw [rw_fnD]
  show Sw (sSeq _ _ [some row, some (.ref m), none, none, none, none, none] L) _ _
  cases h with
  | rows hs bits =>
    have hb : bits.length = 2 ^ hs.length := by
      generalize er : D.tup [.str "rows", .tup (hs.map D.int), .tup (bits.map D.int)] = row at hr
      cases hr with
      | terms _ _ _ _ _ _ _ _ _ _ _ => exact absurd er (by intro q; injection q with q; injection q with q; injection q with q; exact absurd q (by decide +kernel))
      | rows hs' bits' _ _ hb _ =>
        injection er with er
        injection er with _ er
        injection er with er1 er
        injection er with er2 _
        have e1 := congrArg List.length (D.tup.inj er1)
        have e2 := congrArg List.length (D.tup.inj er2)
        rw [List.length_map, List.length_map] at e1 e2
        rw [e1, e2]
        exact hb
    rw [sw_seq, sw_if, rw_val, rw_op, rw_op, rw_var rfl, rw_k]
    refine rw_ixT (k := 0) (d := .str "rows") rfl rfl ?_
    rw [rw_k, rw_strEq (by decide +kernel) (by decide +kernel)]
    show if (("rows" : PySem.Str) == "rows") = true then _ else _
    rw [if_pos (by decide +kernel), sw_seq, sw_asgN, rw_k, sw_seq, sw_for, rw_src, rw_op, rw_var rfl, rw_k]
    refine rw_ixT (k := 1) (d := .tup (hs.map D.int)) rfl rfl ?_
    refine rw_srcT ?_
    refine forD_w (xs := hs.map D.int) (fun i env L' => ∃ s3, env = [some (.tup [.str "rows", .tup (hs.map D.int), .tup (bits.map D.int)]), some (.ref m), some (.int (idx (seen st (hs.take i)))), s3, none, none, none] ∧ Ex' L L') (fun i env L' hi hI => src_atT) (fun i env L' d hd2 hI => ?_) (fun env L' hI => ?_) turnsN 0 _ _ (by simp [turnsN]; omega) (Nat.zero_le _) ⟨none, rfl, Ex'.refl⟩
    · obtain ⟨s3, rfl, x⟩ := hI
      rw [List.getElem?_map] at hd2
      obtain ⟨z, hz, rfl⟩ := Option.map_eq_some_iff.mp hd2
      refine ⟨_, rfl, ?_⟩
      have hi : i < hs.length := (List.getElem?_eq_some_iff.mp hz).1
      have b := idx_bd (n := i) (ds := seen st (hs.take i)) (by unfold seen; rw [List.length_map, List.length_take]; omega) fun d hd => by
        unfold seen at hd
        obtain ⟨w, hw, rfl⟩ := List.mem_map.mp hd
        exact hDs _ (List.mem_map.mpr ⟨w, List.mem_of_mem_take hw, rfl⟩)
      have b16 : (2 : Int) ^ i ≤ 16 := by
        have : i ≤ 4 := by omega
        match i, this with
        | 0, _ | 1, _ | 2, _ | 3, _ | 4, _ => decide
      obtain ⟨k, ek, hk, hke⟩ := hin z (List.mem_of_getElem? hz)
      rw [sw_asgN, rw_op, rw_op, rw_k, rw_var rfl]
      have q1 : CMulX 2 (idx (seen st (hs.take i))) := cmulx_small (by omega) (by omega) (by omega) (by omega)
      rw [rw_mulE q1, rw_op, rw_var rfl, rw_var rfl]
      refine rw_ixL (x.lst hst) (k := k) hke ek ?_
      rw [rw_addI]
      refine ⟨some (.int z), ?_, x⟩
      rw [List.take_succ, hz]
      unfold seen
      rw [List.map_append]
      show _ = [_, _, some (D.int (idx ((hs.take i).map (fun h => st.getD h.toNat 0) ++ [st.getD z.toNat 0]))), _, _, _, _]
      rw [idx_snoc]
      rfl
    · obtain ⟨s3, rfl, x⟩ := hI
      rw [List.length_map, List.take_length]
      have b := idx_bd (n := hs.length) (ds := seen st hs) (by unfold seen; rw [List.length_map]) hDs
      have hb2 : (idx (seen st hs)).toNat < bits.length := by
        have e : ((2 ^ hs.length : Nat) : Int) = 2 ^ hs.length := by rw [Int.natCast_pow]; rfl
        rw [hb]
        omega
      rw [sw_ret, rw_op, rw_op, rw_var rfl, rw_k]
      refine rw_ixT (k := 2) (d := .tup (bits.map D.int)) rfl rfl ?_
      rw [rw_var rfl]
      refine rw_ixT (k := (idx (seen st hs)).toNat) (map_at (List.getElem?_eq_getElem hb2)) (by omega) ⟨?_, x⟩
      congr 1
      simp [hb2]
  | terms hs sg ks hl =>
    have hkl : ks.length ≤ 16 := by
      generalize er : D.tup [.str "terms", .tup (pairsL hs sg), .tup (ks.map tupI)] = row at hr
      cases hr with
      | rows _ _ _ _ _ _ => exact absurd er (by intro q; injection q with q; injection q with q; injection q with q; exact absurd q (by decide +kernel))
      | terms hs' sg' ms ks' _ _ _ _ _ _ hk =>
        injection er with er
        injection er with _ er
        injection er with _ er
        injection er with er2 _
        have e2 := congrArg List.length (D.tup.inj er2)
        rw [List.length_map, List.length_map, (sortL_perm ks').length_eq] at e2
        omega
    rw [sw_seq, sw_if, rw_val, rw_op, rw_op, rw_var rfl, rw_k]
    refine rw_ixT (k := 0) (d := .str "terms") rfl rfl ?_
    rw [rw_k, rw_strEq (by decide +kernel) (by decide +kernel)]
    show if (("terms" : PySem.Str) == "rows") = true then _ else _
    rw [if_neg (by decide +kernel), sw_nx, sw_seq, sw_for, rw_src, rw_op, rw_var rfl, rw_k]
    refine rw_ixT (k := 2) (d := .tup (ks.map tupI)) rfl rfl ?_
    refine rw_srcT ?_
    refine forD_w (xs := ks.map tupI) (fun i env L' => ∃ s2 s3 s4 s5 s6, env = [some (.tup [.str "terms", .tup (pairsL hs sg), .tup (ks.map tupI)]), some (.ref m), s2, s3, s4, s5, s6] ∧ Ex' L L' ∧ ∀ k ∈ ks.take i, holdsT hs sg (seen st hs) k = false) (fun i env L' hi hI => src_atT) (fun i env L' d hd2 hI => ?_) (fun env L' hI => ?_) turnsN 0 _ _ (by simp [turnsN]; omega) (Nat.zero_le _) ⟨none, none, none, none, none, rfl, Ex'.refl, fun k hk => by simp at hk⟩
    · obtain ⟨s2, s3, s4, s5, s6, rfl, x, hno⟩ := hI
      rw [List.getElem?_map] at hd2
      obtain ⟨t, ht, rfl⟩ := Option.map_eq_some_iff.mp hd2
      refine ⟨_, rfl, ?_⟩
      rw [sw_seq, sw_asgN]
      refine rw_lc ?_
      rw [rw_src, rw_op, rw_var rfl, rw_k]
      refine rw_ixT (k := 1) (d := .tup (pairsL hs sg)) rfl rfl ?_
      refine rw_srcT ⟨pairsL hs sg, missD st t, fstD, by rw [pairs_len hl]; omega, fun L2 _ i _ => src_atT, fun d hd L2 x2 => ?_, fun L2 x2 c2 => ?_⟩
      · obtain ⟨z, s, hz, _, rfl⟩ := pairs_mem hd
        refine ⟨_, gTp2 rfl, ?_⟩
        have last : ∀ (P : Prop), (P → True) → Rw (eVar 3 (((wipeE (List.set [some (D.tup [D.str "terms", D.tup (pairsL hs sg), D.tup (List.map tupI ks)]), some (D.ref m), s2, s3, s4, s5, s6] 4 (some (tupI t))) [3, 6]).set 3 (some (D.int z))).set 6 (some (D.int s))) L2) fun e L4 => e = fstD (pairI z s) ∧ Ex' L2 L4 := fun _ _ => by
          rw [rw_var rfl]
          exact ⟨rfl, Ex'.refl⟩
        rw [rw_bAnd, rw_val, rw_op, rw_var rfl, rw_var rfl]
        show Rw (inD false (.int z) (.tup (t.map D.int)) L2) _
        rw [rw_inI (ns := t) rfl]
        show if decide (z ∈ t) = true then _ else _
        refine if_sp (fun q => ?_) (fun q => ?_)
        · rw [rw_val, rw_op, rw_op, rw_var rfl, rw_var rfl]
          obtain ⟨k, ek, hk, hke⟩ := hin z hz
          refine rw_ixL ((x.trans x2).lst hst) (k := k) hke ek ?_
          rw [rw_op, rw_op, rw_var rfl, rw_k, rw_addI, rw_k, rw_fdivE ⟨by decide, by decide⟩, rw_neI]
          exact ⟨by show _ = (decide (z ∈ t) && !decide (st.getD z.toNat 0 = (s + 1).fdiv 2)); rw [q, Bool.true_and], Ex'.refl, fun _ => last True fun h => h⟩
        · exact ⟨by show _ = (decide (z ∈ t) && !decide (st.getD z.toNat 0 = (s + 1).fdiv 2)); rw [q, Bool.false_and], Ex'.refl, fun h => by cases h⟩
      rw [sw_if, rw_not, rw_truL, rw_var rfl]
      have et : truD L2 (.ref L'.length) = some (!(((pairsL hs sg).filter (missD st t)).map fstD).isEmpty) := by
        show (match lstAt L2 L'.length with | some xs => some (!xs.isEmpty) | none => none) = _
        rw [lst_of c2]
      rw [et]
      show if (!(!(List.map fstD _).isEmpty)) = true then _ else _
      rw [Bool.not_not]
      have eh : (((pairsL hs sg).filter (missD st t)).map fstD).isEmpty = holdsT hs sg (seen st hs) t := by
        rw [← miss_holds hl, List.isEmpty_map]
      rw [eh]
      refine if_sp (fun q => ?_) (fun q => ?_)
      · rw [sw_ret, rw_k]
        refine ⟨?_, x.trans x2⟩
        show D.int 1 = D.int (if ks.any (holdsT hs sg (seen st hs)) = true then 1 else 0)
        rw [if_pos (List.any_eq_true.mpr ⟨t, List.mem_of_getElem? ht, q⟩)]
      · refine ⟨_, _, _, _, _, rfl, x.trans x2, fun k hk => ?_⟩
        rw [List.take_succ, ht] at hk
        rcases List.mem_append.mp hk with z | z
        · exact hno k z
        · have : k = t := by simpa using z
          rw [this]
          exact q
    · obtain ⟨s2, s3, s4, s5, s6, rfl, x, hno⟩ := hI
      rw [List.length_map, List.take_length] at hno
      rw [sw_ret, rw_k]
      refine ⟨?_, x⟩
      show D.int 0 = D.int (if ks.any (holdsT hs sg (seen st hs)) = true then 1 else 0)
      rw [if_neg]
      rw [List.any_eq_true]
      rintro ⟨k, hk, q⟩
      rw [hno k hk] at q
      cases q
end K26
set_option Elab.async false
set_option linter.all false
set_option maxRecDepth 100000
set_option maxHeartbeats 2000000
namespace K26
open PySem PySem.Spec PyProof.Rows L2 GxR DW GxA DI
variable {K : PySem.W.Frag}
theorem w_subsJ {ns os : List Int} {L : LH} {capt : List (Option Nat)} {env : Sl} {e2 : D} {j : Nat} (hl : os.length ≤ 1000) (hc : capE capt env = [none, some e2]) (he : ∀ L2, Ex' L L2 → seqD L2 e2 = some (ns.map D.int)) (h1 : env[j]? = some (some (.tup (os.map D.int)))) :
    Rw (eAg true (iSrc (eVar j)) (gNm 0) (eOp (inD false) (eVar 0) (eVar 1)) capt env L) fun v L' => v = .bl (os.all fun o => decide (o ∈ ns)) ∧ Ex' L L' := by
  refine rw_ag ?_
  rw [rw_src, rw_var h1]
  refine rw_srcT ⟨os.map D.int, fun d => match d with | .int o => decide (o ∈ ns) | _ => false, by rw [List.length_map]; omega, fun L2 _ i _ => src_atT, fun d hd L2 x2 => ?_, fun L2 x2 => ?_⟩
  · obtain ⟨z, hz, rfl⟩ := List.mem_map.mp hd
    rw [hc]
    refine ⟨_, rfl, ?_⟩
    show Rw (eOp (inD false) _ _ [some (.int z), some e2] L2) _
    rw [rw_op, rw_var rfl, rw_var rfl, rw_inI (he L2 x2)]
    exact ⟨rfl, Ex'.refl⟩
  · rw [if_pos rfl]
    exact ⟨by rw [List.all_map] <;> rfl, x2⟩
theorem w_sign {L : LH} {s : Int} (h : s = 1 ∨ s = -1) : Rw (F_digit_of_sign K [.int s] L) fun v L' => v = .int ((s + 1).fdiv 2) ∧ Ex' L L' := by
  unfold F_digit_of_sign m_digit_of_sign
  rw [rw_fnD]
  show Sw (sSeq _ _ [some (.int s)] L) _ _
  rw [sw_seq, sw_if, rw_val, rw_op, rw_var rfl, rw_k, rw_eqI]
  show if decide _ = true then _ else _
  rcases h with rfl | rfl
  · rw [if_pos (by decide), sw_ret, rw_k]
    exact ⟨rfl, Ex'.refl⟩
  · rw [if_neg (by decide), sw_nx, sw_ret, rw_k]
    exact ⟨rfl, Ex'.refl⟩
/-- the houses whose digit is as the hearing asks -/
def metD (hs sg ds : List Int) : List Int := ((List.range hs.length).filter fun i => decide (ds.getD i 0 = (sg.getD i 0 + 1).fdiv 2)).map fun i => hs.getD i 0
theorem met_holds {hs sg ds t : List Int} (hh : hs.Pairwise (· < ·)) (ht : ∀ o ∈ t, o ∈ hs) : (t.all fun o => decide (o ∈ metD hs sg ds)) = holdsT hs sg ds t := by
  rw [Bool.eq_iff_iff]
  unfold holdsT
  rw [List.all_eq_true, List.all_eq_true]
  constructor
  · intro h i hi
    have hi2 := List.mem_range.mp hi
    by_cases c : hs.getD i 0 ∈ t
    · have q := of_decide_eq_true (h _ c)
      unfold metD at q
      obtain ⟨j, hj, ej⟩ := List.mem_map.mp q
      rw [List.mem_filter, List.mem_range] at hj
      have e : j = i := by
        rw [show hs.getD j 0 = hs[j] by simp [hj.1], show hs.getD i 0 = hs[i] by simp [hi2]] at ej
        rcases Nat.lt_trichotomy i j with q | q | q
        · have := List.pairwise_iff_getElem.mp hh i j hi2 hj.1 q
          omega
        · exact q.symm
        · have := List.pairwise_iff_getElem.mp hh j i hj.1 hi2 q
          omega
      subst e
      rw [hj.2, Bool.or_true]
    · rw [decide_eq_false c]
      rfl
  · intro h o ho
    obtain ⟨i, hi⟩ := List.getElem?_of_mem (ht o ho)
    obtain ⟨hi2, rfl⟩ := List.getElem?_eq_some_iff.mp hi
    have q := h i (List.mem_range.mpr hi2)
    have e : hs.getD i 0 = hs[i] := by simp [hi2]
    rw [e, decide_eq_true ho] at q
    refine decide_eq_true ?_
    unfold metD
    refine List.mem_map.mpr ⟨i, List.mem_filter.mpr ⟨List.mem_range.mpr hi2, ?_⟩, e⟩
    simpa using q
theorem w_terms_digit {L : LH} {n : Nat} {dref : D} {hs sg ds : List Int} {ks : List (List Int)} (hc : L[n]? = some (termsIns K (.tup (hs.map D.int)) (.tup (pairsL hs sg)) (.tup (ks.map tupI)))) (hd : Is L dref (ds.map D.int)) (hl : ds.length = hs.length) (hsg : sg.length = hs.length) (hs1 : ∀ s ∈ sg, s = 1 ∨ s = -1)
    (h4 : hs.length ≤ 4) (hh : hs.Pairwise (· < ·)) (hkl : ks.length ≤ 1000) (hk : ∀ k ∈ ks, k.length ≤ 1000 ∧ ∀ o ∈ k, o ∈ hs) :
    Rw (F_TermsTable_digit_for K [.ref n, dref] L) fun v L' => v = .int (if ks.any (holdsT hs sg ds) = true then 1 else 0) ∧ Ex' L L' := by
  unfold F_TermsTable_digit_for m_TermsTable_digit_for
  rw [rw_fnD]
  show Sw (sSeq _ _ [some (.ref n), some dref, none, none, none, none, none] L) _ _
  rw [sw_seq, sw_asgN]
  refine rw_lc ?_
  rw [rw_arg, rw_cons]
  refine rw_fld ?_
  rw [rw_var rfl]
  refine ⟨n, _, _, _, rfl, hc, rfl, cf_of (fs := ["hearings", "terms", "heard"]) (by decide) (by decide), ?_⟩
  rw [rw_cons, rw_var rfl, rw_nil]
  have zz : ∀ P : Src → LH → Prop, (∀ s2 : Sq, (∀ L2, Ex' L L2 → s2.get L2 = some (ds.map D.int)) → P (.zip (.t (pairsL hs sg)) s2) L) → Rw (zipD [.tup (pairsL hs sg), dref] L) P := fun P hp => by
    unfold zipD
    cases hd with
    | tup =>
      simp only [sqD, Sq.get]
      exact hp _ fun L2 _ => rfl
    | lst q =>
      simp only [sqD, Sq.get, q]
      exact hp _ fun L2 x => x.lst q
  refine zz _ fun s2 hs2 => ?_
  have plen := pairs_len hsg
  refine ⟨(List.range hs.length).map fun i => D.tup [pairI (hs.getD i 0) (sg.getD i 0), .int (ds.getD i 0)], fun d => match d with | .tup [.tup [_, .int s], .int g] => decide (g = (s + 1).fdiv 2) | _ => false, fun d => match d with | .tup [.tup [z, _], _] => z | d => d, by simp; omega, fun L2 x2 i hi => ?_, fun d hd2 L2 x2 => ?_, fun L2 x2 c2 => ?_⟩
  · rw [List.length_map, List.length_range] at hi
    have e0 : ∀ t : Sq, t.get L2 = some (pairsL hs sg) → Src.at L2 (.zip t s2) i = some (((List.range hs.length).map fun i => D.tup [pairI (hs.getD i 0) (sg.getD i 0), .int (ds.getD i 0)])[i]?) := fun t ht => ?_
    · exact e0 _ rfl
    unfold Src.at
    simp only [ht, hs2 L2 x2]
    by_cases q : i < hs.length
    · have e1 : (pairsL hs sg)[i]? = some (pairI (hs.getD i 0) (sg.getD i 0)) := by
        unfold pairsL
        rw [List.getElem?_zipWith, List.getElem?_eq_getElem q, List.getElem?_eq_getElem (show i < sg.length by omega)]
        simp [q, show i < sg.length by omega]
      have e2 : (ds.map D.int)[i]? = some (.int (ds.getD i 0)) := by
        rw [map_at (List.getElem?_eq_getElem (show i < ds.length by omega))]
        simp [show i < ds.length by omega]
      simp only [e1, e2]
      simp [q]
    · have ei : i = hs.length := by omega
      have e1 : (pairsL hs sg)[i]? = none := List.getElem?_eq_none_iff.mpr (by omega)
      simp only [e1]
      rw [if_pos ⟨by omega, by rw [List.length_map]; omega⟩]
      simp [ei]
  · obtain ⟨i, hi, rfl⟩ := List.mem_map.mp hd2
    have hi2 := List.mem_range.mp hi
    have hsi : sg.getD i 0 = 1 ∨ sg.getD i 0 = -1 := by
      rw [show sg.getD i 0 = sg[i] by simp [show i < sg.length by omega]]
      exact hs1 _ (List.getElem_mem _)
    refine ⟨_, rfl, ?_⟩
    rw [rw_val, rw_op, rw_var rfl, rw_fn, rw_cons, rw_var rfl, rw_nil]
    refine if_len rfl ?_
    refine (w_sign hsi).mono fun v L3 hv => ?_
    obtain ⟨rfl, x3⟩ := hv
    rw [rw_eqI]
    refine ⟨rfl, x3, fun _ => ?_⟩
    rw [rw_var rfl]
    exact ⟨rfl, Ex'.refl⟩
  have em : (((List.range hs.length).map fun i => D.tup [pairI (hs.getD i 0) (sg.getD i 0), .int (ds.getD i 0)]).filter fun d => match d with | .tup [.tup [_, .int s], .int g] => decide (g = (s + 1).fdiv 2) | _ => false).map (fun d => match d with | .tup [.tup [z, _], _] => z | d => d) = (metD hs sg ds).map D.int := by
    rw [List.filter_map, List.map_map]
    unfold metD
    rw [List.map_map]
    rfl
  rw [em] at c2
  rw [sw_seq, sw_for, rw_src]
  refine rw_fld ?_
  rw [rw_var rfl]
  refine ⟨n, _, _, _, rfl, x2 _ _ hc, rfl, cf_of (fs := ["hearings", "terms", "heard"]) (by decide) (by decide), ?_⟩
  refine rw_srcT ?_
  refine forD_w (xs := ks.map tupI) (fun i env L' => ∃ s6, env = [some (.ref n), some dref, some (.ref L.length), none, none, none, s6] ∧ Ex' L2 L' ∧ ∀ k ∈ ks.take i, holdsT hs sg ds k = false) (fun i env L' hi hI => src_atT) (fun i env L' d hd2 hI => ?_) (fun env L' hI => ?_) turnsN 0 _ _ (by simp [turnsN]; omega) (Nat.zero_le _) ⟨none, rfl, Ex'.refl, fun k hk => by simp at hk⟩
  · obtain ⟨s6, rfl, x, hno⟩ := hI
    rw [List.getElem?_map] at hd2
    obtain ⟨t, ht, rfl⟩ := Option.map_eq_some_iff.mp hd2
    have htm := List.mem_of_getElem? ht
    refine ⟨_, rfl, ?_⟩
    rw [sw_if, rw_truL]
    refine (w_subsJ (ns := metD hs sg ds) (os := t) (e2 := .ref L.length) (hk t htm).1 rfl (fun L3 x3 => seq_lst (x3.lst (x.lst (lst_of c2)))) rfl).mono fun v L3 hv => ?_
    obtain ⟨rfl, x3⟩ := hv
    rw [met_holds hh (hk t htm).2]
    show if holdsT hs sg ds t = true then _ else _
    refine if_sp (fun q => ?_) (fun q => ?_)
    · rw [sw_ret, rw_k]
      refine ⟨?_, (x2.trans x).trans x3⟩
      rw [if_pos (List.any_eq_true.mpr ⟨t, htm, q⟩)]
    · refine ⟨_, rfl, x.trans x3, fun k hk2 => ?_⟩
      rw [List.take_succ, ht] at hk2
      rcases List.mem_append.mp hk2 with z | z
      · exact hno k z
      · have : k = t := by simpa using z
        rw [this]
        exact q
  · obtain ⟨s6, rfl, x, hno⟩ := hI
    rw [List.length_map, List.take_length] at hno
    rw [sw_ret, rw_k]
    refine ⟨?_, x2.trans x⟩
    rw [if_neg]
    rw [List.any_eq_true]
    rintro ⟨k, hk2, q⟩
    rw [hno k hk2] at q
    cases q
end K26
set_option Elab.async false
set_option linter.all false
set_option maxRecDepth 100000
set_option maxHeartbeats 2000000
namespace K26
open PySem PySem.Spec PyProof.Rows L2 GxR DW GxA DI
variable {K : PySem.W.Frag}
def stD (st : List Int) : D := .tup (st.map D.int)
theorem rw_tupleS {P : D → LH → Prop} {L : LH} {d : D} {xs : List D} (h : Is L d xs) : Rw (tupleD [d] L) P = P (.tup xs) L := by
  unfold tupleD
  simp only [h.seq]
  rfl
theorem w_row_of {L : LH} {d : D} {st : List Int} {size : Nat} (hd : Is L d (st.map D.int)) (hl : st.length = size) (hz : size ≤ 1000) (hD : Dig st) : Rw (F_is_row_of K [.int size, .tup [.int 0, .int 1], d] L) fun v L' => v = .bl true ∧ Ex' L L' := by
  unfold F_is_row_of m_is_row_of
  rw [rw_fnD]
  show Sw (sRet _ [some (.int (size : Int)), some (.tup [.int 0, .int 1]), some d] L) _ _
  rw [sw_ret, rw_and, rw_op, rw_call, rw_cons, rw_var rfl, rw_nil]
  refine rw_lenS hd ?_
  rw [rw_var rfl, List.length_map, rw_eqI, hl]
  show if decide _ = true then _ else _
  rw [if_pos (decide_eq_true rfl)]
  refine rw_ag ?_
  rw [rw_src, rw_var rfl]
  refine rw_srcS hd fun s hat => ⟨st.map D.int, fun _ => true, by rw [List.length_map]; omega, hat, fun d2 hd2 L2 x2 => ?_, fun L2 x2 => ?_⟩
  · obtain ⟨z, hz2, rfl⟩ := List.mem_map.mp hd2
    refine ⟨_, rfl, ?_⟩
    show Rw (eOp (inD false) _ _ [some (.int z), some (.tup ([0, 1].map D.int))] L2) _
    rw [rw_op, rw_var rfl, rw_var rfl, rw_inI (ns := [0, 1]) rfl]
    refine ⟨?_, Ex'.refl⟩
    rw [decide_eq_true (by rcases hD z hz2 with q | q <;> simp [q])]
  · rw [all_true]
    exact ⟨rfl, x2⟩
theorem w_as_state {L : LH} {d : D} {st : List Int} {size : Nat} (hd : Is L d (st.map D.int)) (hl : st.length = size) (hz : size ≤ 1000) (hD : Dig st) : Rw (F_as_state K [.int size, d] L) fun v L' => v = stD st ∧ Ex' L L' := by
  unfold F_as_state m_as_state
  rw [rw_fnD]
  show Sw (sSeq _ _ [some (.int (size : Int)), some d] L) _ _
  rw [sw_seq, sw_if, rw_not, rw_truL, rw_fn, rw_cons, rw_var rfl, rw_cons, rw_tup]
  simp only [rw_cons, rw_k, rw_nil]
  refine if_le (by show (2 : Nat) ≤ 100000; decide) ?_
  rw [rw_var rfl]
  refine if_len rfl ?_
  refine (w_row_of hd hl hz hD).mono fun v L1 hv => ?_
  obtain ⟨rfl, x1⟩ := hv
  show if (!true) = true then _ else _
  rw [if_neg (by decide), sw_nx, sw_ret, rw_call, rw_cons, rw_var rfl, rw_nil, rw_tupleS (hd.mono x1)]
  exact ⟨rfl, x1⟩
theorem cell_rows {a b : List D} {c : Cell} (h : TCell K (.tup [.str "rows", .tup a, .tup b]) c) : c = rowsIns K (.tup a) (.tup b) := by
  generalize er : D.tup [.str "rows", .tup a, .tup b] = row at h
  cases h with
  | terms _ _ _ _ => exact absurd er (by intro q; injection q with q; injection q with q; injection q with q; exact absurd q (by decide +kernel))
  | rows hs bits =>
    injection er with er
    injection er with _ er
    injection er with er1 er
    injection er with er2 _
    rw [er1, er2]
theorem cell_terms {hs sg : List Int} {ts : List D} {c : Cell} (hl : sg.length = hs.length) (h : TCell K (.tup [.str "terms", .tup (pairsL hs sg), .tup ts]) c) : c = termsIns K (.tup (hs.map D.int)) (.tup (pairsL hs sg)) (.tup ts) := by
  generalize er : D.tup [.str "terms", .tup (pairsL hs sg), .tup ts] = row at h
  cases h with
  | rows _ _ => exact absurd er (by intro q; injection q with q; injection q with q; injection q with q; exact absurd q (by decide +kernel))
  | terms hs' sg' ts' hl' =>
    injection er with er
    injection er with _ er
    injection er with er1 er
    injection er with er2 _
    have e := D.tup.inj er1
    have e2 : hs.map D.int = hs'.map D.int := by rw [← pairs_fst hl, ← pairs_fst hl', e]
    rw [e2, e, er2]
theorem rw_heardF {P : D → LH → Prop} {L : LH} {env : Sl} {ma : Sl → LH → DI.R D} {row : D} {hs : List Int} {f : List Int → Int} (hr : RowF row hs f) (h : Rw (ma env L) fun d L1 => Tab K L1 row d ∧ P (.tup (hs.map D.int)) L1) : Rw (eFld (cf K) "heard" ma env L) P := by
  refine rw_fld (h.mono fun d L1 q => ?_)
  obtain ⟨⟨n, c, rfl, hc, ht⟩, hP⟩ := q
  cases hr with
  | rows hs bits =>
    rw [cell_rows ht] at hc
    exact ⟨n, _, _, _, rfl, hc, rfl, cf_of (fs := ["bits", "heard"]) (by decide) (by decide), hP⟩
  | terms hs sg ks hl =>
    rw [cell_terms hl ht] at hc
    exact ⟨n, _, _, _, rfl, hc, rfl, cf_of (fs := ["hearings", "terms", "heard"]) (by decide) (by decide), hP⟩
end K26
set_option Elab.async false
set_option linter.all false
set_option maxRecDepth 100000
set_option maxHeartbeats 2000000
namespace K26
open PySem PySem.Spec PyProof.Rows L2 GxR DW GxA DI
variable {K : PySem.W.Frag}
theorem rw_me {M : MT} {mn : PySem.Str} {ma : Sl → LH → DI.R D} {m : Sl → LH → DI.R (List D)} {env : Sl} {L : LH} {P : D → LH → Prop}
    (h : Rw (ma env L) fun d L1 => ∃ n C fs np F, d = .ref n ∧ L1[n]? = some (.ins C fs) ∧ fs.lookup mn = none ∧ M C = some (np, F) ∧ Rw (m env L1) fun ds L2 => ds.length + 1 = np ∧ Rw (F (.ref n :: ds) L2) P) : Rw (eMe M mn ma m env L) P := by
  unfold eMe
  rw [rw_bind]
  refine h.mono fun d L1 q => ?_
  obtain ⟨n, C, fs, np, F, rfl, h1, h2, h3, h4⟩ := q
  simp only [ins_of h1, h2, h3]
  rw [rw_bind]
  refine h4.mono fun ds L2 q => ?_
  rw [if_pos q.1]
  exact q.2
theorem sw_set {mo mi m : Sl → LH → DI.R D} {env : Sl} {L : LH} {Ps : Sl → LH → Prop} {Qs : D → LH → Prop}
    (h : Rw (m env L) fun y L1 => Rw (mo env L1) fun d L2 => Rw (mi env L2) fun i L3 => ∃ (n k : Nat) (xs : List D), d = .ref n ∧ i = .int k ∧ L3[n]? = some (.lst true xs) ∧ k < xs.length ∧ Ps env (L3.set n (.lst true (xs.set k y)))) : Sw (sSet mo mi m env L) Ps Qs := by
  unfold sSet
  rw [sw_eS]
  refine h.mono fun y L1 h => ?_
  rw [sw_eS]
  refine h.mono fun d L2 h => ?_
  rw [sw_eS]
  refine h.mono fun i L3 h => ?_
  obtain ⟨n, k, xs, rfl, rfl, h1, h2, h3⟩ := h
  have e : ixN xs.length (k : Int) = some k := by
    unfold ixN
    rw [if_pos (Int.natCast_nonneg k), if_pos (by omega), Int.toNat_natCast]
  simp only [mut_of h1, e]
  exact h3
theorem RowOk.bits {size : Int} {hs bits : List Int} (h : RowOk size (.tup [.str "rows", .tup (hs.map D.int), .tup (bits.map D.int)])) : bits.length = 2 ^ hs.length := by
  generalize er : D.tup [.str "rows", .tup (hs.map D.int), .tup (bits.map D.int)] = row at h
  cases h with
  | terms _ _ _ _ _ _ _ _ _ _ _ => exact absurd er (by intro q; injection q with q; injection q with q; injection q with q; exact absurd q (by decide +kernel))
  | rows hs' bits' _ _ hb _ =>
    injection er with er
    injection er with _ er
    injection er with er1 er
    injection er with er2 _
    have e1 := congrArg List.length (D.tup.inj er1)
    have e2 := congrArg List.length (D.tup.inj er2)
    rw [List.length_map, List.length_map] at e1 e2
    rw [e1, e2]
    exact hb
theorem D_int_inj : ∀ {x y : List Int}, x.map D.int = y.map D.int → x = y
  | [], [], _ => rfl
  | [], _ :: _, h => by cases h
  | _ :: _, [], h => by cases h
  | x :: xs, y :: ys, h => by
    rw [List.map_cons, List.map_cons] at h
    injection h with h1 h2
    rw [D.int.inj h1, D_int_inj h2]
theorem tupI_inj : ∀ {x y : List (List Int)}, x.map tupI = y.map tupI → x = y
  | [], [], _ => rfl
  | [], _ :: _, h => by cases h
  | _ :: _, [], h => by cases h
  | x :: xs, y :: ys, h => by
    rw [List.map_cons, List.map_cons] at h
    injection h with h1 h2
    rw [D_int_inj (D.tup.inj h1), tupI_inj h2]
theorem pairs_inj : ∀ {hs hs' sg sg' : List Int}, sg.length = hs.length → sg'.length = hs'.length → pairsL hs sg = pairsL hs' sg' → hs = hs' ∧ sg = sg'
  | [], [], [], [], _, _, _ => ⟨rfl, rfl⟩
  | [], h :: hs, [], s :: sg, _, _, e => by cases e
  | h :: hs, [], s :: sg, [], _, _, e => by cases e
  | h :: hs, h' :: hs', s :: sg, s' :: sg', l1, l2, e => by
    have e' : pairI h s :: pairsL hs sg = pairI h' s' :: pairsL hs' sg' := e
    injection e' with e1 e2
    unfold pairI at e1
    injection e1 with e1
    injection e1 with a1 a2
    injection a2 with a2 _
    obtain ⟨i1, i2⟩ := pairs_inj (by simpa using l1) (by simpa using l2) e2
    rw [D.int.inj a1, D.int.inj a2, i1, i2]
    exact ⟨rfl, rfl⟩
  | [], _, _ :: _, _, l, _, _ => by cases l
  | _ :: _, _, [], _, l, _, _ => by cases l
  | _, [], _, _ :: _, _, l, _ => by cases l
  | _, _ :: _, _, [], _, l, _ => by cases l
theorem RowOk.good {size : Int} {hs sg : List Int} {ks : List (List Int)} (hl : sg.length = hs.length) (h : RowOk size (.tup [.str "terms", .tup (pairsL hs sg), .tup (ks.map tupI)])) : (∀ s ∈ sg, s = 1 ∨ s = -1) ∧ ks.length ≤ 16 ∧ ∀ k ∈ ks, k.length ≤ 1000 ∧ ∀ o ∈ k, o ∈ hs := by
  generalize er : D.tup [.str "terms", .tup (pairsL hs sg), .tup (ks.map tupI)] = row at h
  cases h with
  | rows _ _ _ _ _ _ => exact absurd er (by intro q; injection q with q; injection q with q; injection q with q; exact absurd q (by decide +kernel))
  | terms hs' sg' ms ks' hh h4 hl' hs1 hm ht hk =>
    injection er with er
    injection er with _ er
    injection er with er1 er
    injection er with er2 _
    obtain ⟨e1, e2⟩ := pairs_inj hl hl' (D.tup.inj er1)
    have e3 := tupI_inj (D.tup.inj er2)
    subst e1 e2 e3
    obtain ⟨g1, _, _⟩ := terms_good hh hm h4 ht
    exact ⟨hs1, by rw [(sortL_perm ks').length_eq]; exact hk, fun k hk2 => ⟨(g1 k hk2).1, (g1 k hk2).2.2⟩⟩
/-- a table's digit_for, of a row of digits -/
theorem w_digitS {L : LH} {env : Sl} {size : Int} {row : D} {hs ds : List Int} {f : List Int → Int} {ma : Sl → LH → DI.R D} {m : Sl → LH → DI.R (List D)} {P : D → LH → Prop} (hnd : He.ga K "TermsTable" ≠ He.ga K "RowsTable") (hok : RowOk size row) (hr : RowF row hs f) (hh : Hs size hs) (h4 : hs.length ≤ 4) (hD : Dig ds) (hl : ds.length = hs.length)
    (h : Rw (ma env L) fun d L1 => Tab K L1 row d ∧ Rw (m env L1) fun es L2 => Tab K L2 row d ∧ ∃ k, es = [k] ∧ Is L2 k (ds.map D.int) ∧ ∀ L3, Ex' L2 L3 → P (.int (f ds)) L3) : Rw (eMe (M_digit_for K) "digit_for" ma m env L) P := by
  refine rw_me (h.mono fun d L1 q => ?_)
  obtain ⟨⟨n, c, rfl, hc, ht⟩, h2⟩ := q
  cases hr with
  | rows hs bits =>
    rw [cell_rows ht] at hc
    refine ⟨n, _, _, 2, F_RowsTable_digit_for K, rfl, hc, rfl, by unfold M_digit_for; rw [if_pos rfl], h2.mono fun es L2 q => ?_⟩
    obtain ⟨⟨n', c', en, hc', ht'⟩, k, rfl, hk, hP⟩ := q
    cases en
    rw [cell_rows ht'] at hc'
    refine ⟨rfl, (w_rows_digit hc' hk hD hl h4 hok.bits).mono fun v L3 hv => ?_⟩
    obtain ⟨rfl, x⟩ := hv
    exact hP L3 x
  | terms hs sg ks hsg =>
    rw [cell_terms hsg ht] at hc
    refine ⟨n, _, _, 2, F_TermsTable_digit_for K, rfl, hc, rfl, by unfold M_digit_for; rw [if_neg hnd, if_pos rfl], h2.mono fun es L2 q => ?_⟩
    obtain ⟨⟨n', c', en, hc', ht'⟩, k, rfl, hk, hP⟩ := q
    cases en
    rw [cell_terms hsg ht'] at hc'
    obtain ⟨g1, g2, g3⟩ := RowOk.good hsg hok
    refine ⟨rfl, (w_terms_digit hc' hk hl hsg g1 h4 hh.1 (by omega) g3).mono fun v L3 hv => ?_⟩
    obtain ⟨rfl, x⟩ := hv
    exact hP L3 x
end K26
set_option Elab.async false
set_option linter.all false
set_option maxRecDepth 100000
set_option maxHeartbeats 2000000
namespace K26
open PySem PySem.Spec PyProof.Rows L2 GxR DW GxA DI
variable {K : PySem.W.Frag}
theorem rw_eIf {mc : Sl → LH → DI.R Bool} {ma mb : Sl → LH → DI.R D} {env : Sl} {L : LH} {P : D → LH → Prop} : Rw (eIf mc ma mb env L) P = Rw (mc env L) fun b L => if b = true then Rw (ma env L) P else Rw (mb env L) P := by
  unfold eIf
  rw [rw_bind]
  congr 1
  funext b L
  split <;> rfl
theorem intBits_128 {k : Int} (h1 : -(2 ^ 128) < k) (h2 : k < 2 ^ 128) : Builtin.Int.intBits k ≤ 128 := by
  unfold Builtin.Int.intBits
  split
  · exact Nat.zero_le _
  · have hn : k.natAbs < 2 ^ 128 := by omega
    have : k.natAbs.log2 < 128 := by
      rcases Nat.eq_zero_or_pos k.natAbs with h0 | hp
      · rw [h0]; decide
      · exact (Nat.log2_lt (Nat.ne_of_gt hp)).mpr hn
    omega
/-- a top: at least 1 -/
def TopOk (top : Int) : Prop := 1 ≤ top ∧ top < 2 ^ 127
theorem cmulx_top {top j : Int} (h : TopOk top) (h3 : -(2 ^ 64) < j) (h4 : j < 2 ^ 64) : CMulX top j := by
  obtain ⟨h1, h2⟩ := h
  have a := intBits_128 (k := top) (by omega) (by omega)
  have b := intBits_le_64 h3 h4
  unfold CMulX
  omega
theorem rw_srcB {P : Src → LH → Prop} {L0 L : LH} {d : D} {xs : List D} (h : Is L0 d xs) (x : Ex' L0 L) (hp : ∀ s, (∀ L2, Ex' L0 L2 → ∀ i, i ≤ xs.length → Src.at L2 s i = some xs[i]?) → P s L) : Rw (srcD d L) P := by
  cases h with
  | tup => exact rw_srcT (hp _ fun L2 _ i _ => src_atT)
  | lst q => exact rw_srcL (x.lst q) (hp _ fun L2 x i _ => src_atL (x.lst q))
/-- a row of values, one by one: tuple([g(x) for x in row]) with ints -/
theorem w_mapT {L : LH} {mi : Sl → LH → DI.R Src} {m : Sl → LH → DI.R D} {env : Sl} {i : Nat} {ns : List Int} {g : Int → Int} {P : D → LH → Prop} (hi : i < env.length) (hl : ns.length ≤ 1000)
    (hs : Rw (mi env L) fun src L1 => (∀ L2, Ex' L1 L2 → ∀ i, i ≤ (ns.map D.int).length → src.at L2 i = some (ns.map D.int)[i]?) ∧ (∀ z ∈ ns, ∀ L2, Ex' L1 L2 → Rw (m ((wipeE env [i]).set i (some (.int z))) L2) fun e L4 => e = .int (g z) ∧ Ex' L2 L4) ∧ ∀ L2, Ex' L1 L2 → P (.tup ((ns.map g).map D.int)) L2) :
    Rw (eCall tupleD (aCons (eLc mi (gNm i) bYes m [i]) aNil) env L) P := by
  rw [rw_call, rw_cons]
  refine rw_lc (hs.mono fun src L1 h => ?_)
  obtain ⟨h1, h2, h3⟩ := h
  refine ⟨ns.map D.int, fun _ => true, fun d => match d with | .int z => .int (g z) | d => d, by rw [List.length_map]; omega, h1, fun d hd L2 x2 => ?_, fun L2 x2 c2 => ?_⟩
  · obtain ⟨z, hz, rfl⟩ := List.mem_map.mp hd
    exact ⟨_, rfl, rfl, Ex'.refl, fun _ => h2 z hz L2 x2⟩
  · rw [rw_nil, rw_tupleL (lst_of c2)]
    have e : (((ns.map D.int).filter fun _ => true).map fun d => match d with | .int z => D.int (g z) | d => d) = (ns.map g).map D.int := by
      rw [List.filter_eq_self.mpr (fun _ _ => rfl), List.map_map, List.map_map]
      rfl
    rw [e]
    exact h3 L2 x2
/-! ### marks -/
def markI (top l : Int) : Int := if l = 0 then 0 else if l = top then 1 else 2
theorem w_mark_of {L : LH} {top l : Int} : Rw (F_mark_of K [.int top, .int l] L) fun v L' => v = .int (markI top l) ∧ Ex' L L' := by
  unfold F_mark_of m_mark_of markI
  rw [rw_fnD]
  show Sw (sSeq _ _ [some (.int top), some (.int l)] L) _ _
  rw [sw_seq, sw_if, rw_val, rw_op, rw_var rfl, rw_k, rw_eqI]
  show if decide _ = true then _ else _
  by_cases q : l = 0
  · rw [if_pos (decide_eq_true q), if_pos q, sw_ret, rw_k]
    exact ⟨rfl, Ex'.refl⟩
  · rw [if_neg (by simpa using q), if_neg q, sw_nx, sw_seq, sw_if, rw_val, rw_op, rw_var rfl, rw_var rfl, rw_eqI]
    show if decide _ = true then _ else _
    by_cases q2 : l = top
    · rw [if_pos (decide_eq_true q2), if_pos q2, sw_ret, rw_k]
      exact ⟨rfl, Ex'.refl⟩
    · rw [if_neg (by simpa using q2), if_neg q2, sw_nx, sw_ret, rw_k]
      exact ⟨rfl, Ex'.refl⟩
theorem w_law_mark {L : LH} {top l : Int} : Rw (F__law_mark K [.int top, .int l] L) fun v L' => v = .int (markI top l) ∧ Ex' L L' := by
  unfold F__law_mark m__law_mark markI
  rw [rw_fnD]
  show Sw (sSeq _ _ [some (.int top), some (.int l)] L) _ _
  rw [sw_seq, sw_if, rw_val, rw_op, rw_var rfl, rw_k, rw_eqI]
  show if decide _ = true then _ else _
  by_cases q : l = 0
  · rw [if_pos (decide_eq_true q), if_pos q, sw_ret, rw_k]
    exact ⟨rfl, Ex'.refl⟩
  · rw [if_neg (by simpa using q), if_neg q, sw_nx, sw_ret, rw_eIf, rw_val, rw_op, rw_var rfl, rw_var rfl, rw_eqI]
    show if decide _ = true then _ else _
    by_cases q2 : l = top
    · rw [if_pos (decide_eq_true q2), if_pos q2, rw_k]
      exact ⟨rfl, Ex'.refl⟩
    · rw [if_neg (by simpa using q2), if_neg q2, rw_k]
      exact ⟨rfl, Ex'.refl⟩
theorem w_readable {L : LH} {top : Int} {d : D} {ns : List Int} (hd : Is L d (ns.map D.int)) (hl : ns.length ≤ 1000) : Rw (F_readable K [.int top, d] L) fun v L' => v = .tup ((ns.map (markI top)).map D.int) ∧ Ex' L L' := by
  unfold F_readable m_readable
  rw [rw_fnD]
  show Sw (sRet _ [some (.int top), some d, none] L) _ _
  rw [sw_ret]
  refine w_mapT (ns := ns) (g := markI top) (by show 2 < 3; decide) hl ?_
  rw [rw_src, rw_var rfl]
  refine rw_srcS hd fun s hs => ⟨hs, fun z _ L2 x2 => ?_, fun L2 x2 => ⟨rfl, x2⟩⟩
  show Rw (eFn 2 _ _ [some (.int top), some d, some (.int z)] L2) _
  rw [rw_fn, rw_cons, rw_var rfl, rw_cons, rw_var rfl, rw_nil]
  refine if_len rfl ?_
  exact w_mark_of
theorem w_corner_of {L : LH} {top : Int} {d : D} {st : List Int} (ht : TopOk top) (hd : Is L d (st.map D.int)) (hl : st.length ≤ 1000) (hD : Dig st) : Rw (F_corner_of K [.int top, d] L) fun v L' => v = .tup ((st.map (top * ·)).map D.int) ∧ Ex' L L' := by
  unfold F_corner_of m_corner_of
  rw [rw_fnD]
  show Sw (sRet _ [some (.int top), some d, none] L) _ _
  rw [sw_ret]
  refine w_mapT (ns := st) (g := (top * ·)) (by show 2 < 3; decide) hl ?_
  rw [rw_src, rw_var rfl]
  refine rw_srcS hd fun s hs => ⟨hs, fun z hz L2 x2 => ?_, fun L2 x2 => ⟨rfl, x2⟩⟩
  show Rw (eOp mulD _ _ [some (.int top), some d, some (.int z)] L2) _
  have hz2 := hD z hz
  rw [rw_op, rw_var rfl, rw_var rfl, rw_mulE (cmulx_top ht (by omega) (by omega))]
  exact ⟨rfl, Ex'.refl⟩
theorem w_check_top {L : LH} {top : Int} (ht : TopOk top) : Rw (F_check_top K [.int top, .int 1] L) fun v L' => Ex' L L' := by
  unfold F_check_top m_check_top
  rw [rw_fnD]
  show Sw (sIf _ _ _ [some (.int top), some (.int 1)] L) _ _
  rw [sw_if, rw_val, rw_op, rw_var rfl, rw_var rfl, rw_ltI]
  show if decide _ = true then _ else _
  rw [if_neg (by rw [decide_eq_false (by have := ht.1; omega)]; decide), sw_nx]
  exact Ex'.refl
/-! ### digits, states -/
theorem w_digits_of {L : LH} {m : Int} : Rw (F_digits_of K [.int m] L) fun v L' => v = .tup ((if m = 2 then [0, 1] else [m]).map D.int) ∧ Ex' L L' := by
  unfold F_digits_of m_digits_of
  rw [rw_fnD]
  show Sw (sSeq _ _ [some (.int m)] L) _ _
  rw [sw_seq, sw_if, rw_val, rw_op, rw_var rfl, rw_k, rw_eqI]
  show if decide _ = true then _ else _
  by_cases q : m = 2
  · rw [if_pos (decide_eq_true q), if_pos q, sw_ret, rw_tup, rw_cons, rw_k, rw_cons, rw_k, rw_nil]
    exact if_le (by show 2 ≤ 100000; decide) ⟨rfl, Ex'.refl⟩
  · rw [if_neg (by simpa using q), if_neg q, sw_nx, sw_ret, rw_tup, rw_cons, rw_var rfl, rw_nil]
    exact if_le (by show 1 ≤ 100000; decide) ⟨rfl, Ex'.refl⟩
theorem w_step {L : LH} {s : Int} (h : s = 1 ∨ s = -1) : Rw (F_digit_of_step K [.int s] L) fun v L' => v = .int ((s + 1).fdiv 2) ∧ Ex' L L' := by
  unfold F_digit_of_step m_digit_of_step
  rw [rw_fnD]
  show Sw (sSeq _ _ [some (.int s)] L) _ _
  rw [sw_seq, sw_if, rw_val, rw_op, rw_var rfl, rw_k, rw_eqI]
  show if decide _ = true then _ else _
  rcases h with rfl | rfl
  · rw [if_pos (by decide), sw_ret, rw_k]
    exact ⟨rfl, Ex'.refl⟩
  · rw [if_neg (by decide), sw_nx, sw_ret, rw_k]
    exact ⟨rfl, Ex'.refl⟩
theorem w_as_any_state {L : LH} {d : D} {st : List Int} (hd : Is L d (st.map D.int)) (hl : 1 ≤ st.length ∧ st.length ≤ 12) (hD : Dig st) : Rw (F_as_any_state K [d] L) fun v L' => v = .tup (st.map D.int) ∧ Ex' L L' := by
  unfold F_as_any_state m_as_any_state
  rw [rw_fnD]
  show Sw (sSeq _ _ [some d] L) _ _
  rw [sw_seq, sw_if, rw_not, rw_truL, rw_fn, rw_cons, rw_call, rw_cons, rw_var rfl, rw_nil]
  refine rw_lenS hd ?_
  rw [rw_nil, List.length_map]
  refine if_len rfl ?_
  refine (w_is_size hl).mono fun v L1 hv => ?_
  obtain ⟨rfl, x1⟩ := hv
  show if (!true) = true then _ else _
  rw [if_neg (by decide), sw_nx, sw_ret, rw_fn, rw_cons, rw_call, rw_cons, rw_var rfl, rw_nil]
  refine rw_lenS (hd.mono x1) ?_
  rw [List.length_map, rw_cons, rw_var rfl, rw_nil]
  refine if_len rfl ?_
  refine (w_as_state (hd.mono x1) rfl (by omega) hD).mono fun v L2 hv => ?_
  exact ⟨hv.1, x1.trans hv.2⟩
/-- levels: each from 0 to the top -/
def LvOk (top : Int) (lv : List Int) : Prop := ∀ l ∈ lv, 0 ≤ l ∧ l ≤ top
theorem w_as_any_levels {L : LH} {d : D} {lv : List Int} {top : Int} (hd : Is L d (lv.map D.int)) (hl : 1 ≤ lv.length ∧ lv.length ≤ 12) (hv : LvOk top lv) : Rw (F_as_any_levels K [.int top, d] L) fun v L' => v = .tup (lv.map D.int) ∧ Ex' L L' := by
  unfold F_as_any_levels m_as_any_levels
  rw [rw_fnD]
  show Sw (sSeq _ _ [some (.int top), some d] L) _ _
  rw [sw_seq, sw_if, rw_bOr, rw_not, rw_truL, rw_fn, rw_cons, rw_call, rw_cons, rw_var rfl, rw_nil]
  refine rw_lenS hd ?_
  rw [rw_nil, List.length_map]
  refine if_len rfl ?_
  refine (w_is_size hl).mono fun v L1 hv1 => ?_
  obtain ⟨rfl, x1⟩ := hv1
  show if (!true) = true then _ else _
  rw [if_neg (by decide), rw_not, rw_truL]
  refine rw_ag ?_
  rw [rw_src, rw_var rfl]
  refine rw_srcB hd x1 fun s hs => ⟨lv.map D.int, fun _ => true, by rw [List.length_map]; omega, fun L2 x2 => hs L2 (x1.trans x2), fun e he L2 x2 => ?_, fun L2 x2 => ?_⟩
  · obtain ⟨z, hz, rfl⟩ := List.mem_map.mp he
    obtain ⟨z1, z2⟩ := hv z hz
    refine ⟨_, rfl, ?_⟩
    rw [rw_chain, rw_k, rw_var rfl, rw_leI]
    rw [decide_eq_true z1]
    show if true = true then _ else _
    rw [if_pos rfl, rw_var rfl, rw_leI, decide_eq_true z2]
    exact ⟨rfl, Ex'.refl⟩
  · rw [all_true]
    show if (!true) = true then _ else _
    rw [if_neg (by decide), sw_nx, sw_ret, rw_call, rw_cons, rw_var rfl, rw_nil, rw_tupleS (hd.mono (x1.trans x2))]
    exact ⟨rfl, x1.trans x2⟩
end K26
set_option Elab.async false
set_option linter.all false
set_option maxRecDepth 100000
set_option maxHeartbeats 2000000
namespace K26
open PySem PySem.Spec PyProof.Rows L2 GxR DW GxA DI
variable {K : PySem.W.Frag}
theorem w_corner {L : LH} {top : Int} {d : D} {st : List Int} (ht : TopOk top) (hd : Is L d (st.map D.int)) (hl : 1 ≤ st.length ∧ st.length ≤ 12) (hD : Dig st) : Rw (F_corner K [.int top, d] L) fun v L' => v = .tup ((st.map (top * ·)).map D.int) ∧ Ex' L L' := by
  unfold F_corner m_corner
  rw [rw_fnD]
  show Sw (sSeq _ _ [some (.int top), some d] L) _ _
  rw [sw_seq, sw_drop, rw_fn, rw_cons, rw_var rfl, rw_cons, rw_k, rw_nil]
  refine if_len rfl ?_
  refine (w_check_top ht).mono fun v L1 x1 => ?_
  rw [sw_ret, rw_fn, rw_cons, rw_var rfl, rw_cons, rw_fn, rw_cons, rw_var rfl, rw_nil]
  refine if_len rfl ?_
  refine (w_as_any_state (hd.mono x1) hl hD).mono fun v L2 hv => ?_
  obtain ⟨rfl, x2⟩ := hv
  rw [rw_nil]
  refine if_len rfl ?_
  refine (w_corner_of ht (.tup _) (by omega) hD).mono fun v L3 hv => ⟨hv.1, (x1.trans x2).trans hv.2⟩
theorem w_reading_room {L : LH} {top : Int} {d : D} {lv : List Int} (ht : TopOk top) (hd : Is L d (lv.map D.int)) (hl : 1 ≤ lv.length ∧ lv.length ≤ 12) (hv : LvOk top lv) : Rw (F_reading_room K [.int top, d] L) fun v L' => v = .tup ((lv.map (markI top)).map D.int) ∧ Ex' L L' := by
  unfold F_reading_room m_reading_room
  rw [rw_fnD]
  show Sw (sSeq _ _ [some (.int top), some d] L) _ _
  rw [sw_seq, sw_drop, rw_fn, rw_cons, rw_var rfl, rw_cons, rw_k, rw_nil]
  refine if_len rfl ?_
  refine (w_check_top ht).mono fun v L1 x1 => ?_
  rw [sw_ret, rw_fn, rw_cons, rw_var rfl, rw_cons, rw_fn, rw_cons, rw_var rfl, rw_cons, rw_var rfl, rw_nil]
  refine if_len rfl ?_
  refine (w_as_any_levels (hd.mono x1) hl hv).mono fun v L2 hv => ?_
  obtain ⟨rfl, x2⟩ := hv
  rw [rw_nil]
  refine if_len rfl ?_
  refine (w_readable (.tup _) (by omega)).mono fun v L3 hv => ⟨hv.1, (x1.trans x2).trans hv.2⟩
def stateD (room : List Int) : D := if (2 : Int) ∈ room then .non else .tup (room.map D.int)
theorem w_corner_state {L : LH} {top : Int} {d : D} {lv : List Int} (ht : TopOk top) (hd : Is L d (lv.map D.int)) (hl : 1 ≤ lv.length ∧ lv.length ≤ 12) (hv : LvOk top lv) : Rw (F_corner_state K [.int top, d] L) fun v L' => v = stateD (lv.map (markI top)) ∧ Ex' L L' := by
  unfold F_corner_state m_corner_state
  rw [rw_fnD]
  show Sw (sSeq _ _ [some (.int top), some d] L) _ _
  rw [sw_seq, sw_drop, rw_fn, rw_cons, rw_var rfl, rw_cons, rw_k, rw_nil]
  refine if_len rfl ?_
  refine (w_check_top ht).mono fun v L1 x1 => ?_
  rw [sw_ret, rw_fn, rw_cons, rw_var rfl, rw_cons, rw_fn, rw_cons, rw_var rfl, rw_cons, rw_var rfl, rw_nil]
  refine if_len rfl ?_
  refine (w_as_any_levels (hd.mono x1) hl hv).mono fun v L2 hv => ?_
  obtain ⟨rfl, x2⟩ := hv
  rw [rw_nil]
  refine if_len rfl ?_
  unfold F_state_at m_state_at
  rw [rw_fnD]
  show Sw (sSeq _ _ [some (.int top), some (.tup (lv.map D.int)), none] L2) _ _
  rw [sw_seq, sw_asgN, rw_fn, rw_cons, rw_var rfl, rw_cons, rw_var rfl, rw_nil]
  refine if_len rfl ?_
  refine (w_readable (.tup _) (by omega)).mono fun v L3 hv => ?_
  obtain ⟨rfl, x3⟩ := hv
  unfold stateD
  rw [sw_seq, sw_if, rw_val, rw_op, rw_k, rw_var rfl, rw_inI rfl]
  show if decide _ = true then _ else _
  by_cases q : (2 : Int) ∈ lv.map (markI top)
  · rw [if_pos (decide_eq_true q), sw_ret, rw_k, if_pos q]
    exact ⟨rfl, (x1.trans x2).trans x3⟩
  · rw [if_neg (by rw [decide_eq_false q]; decide), sw_nx, sw_ret, rw_var rfl, if_neg q]
    exact ⟨rfl, (x1.trans x2).trans x3⟩
/-! ### a move is good -/
abbrev RFn := List Int × (List Int → Int)
def rfAt (rf : List RFn) (k : Nat) : RFn := rf.getD k ([], fun _ => 0)
structure RowsF (rows : List D) (rf : List RFn) : Prop where
  len : rf.length = rows.length
  at' : ∀ (k : Nat) (row : D), rows[k]? = some row → RowOk rows.length row ∧ RowF row (rfAt rf k).1 (rfAt rf k).2 ∧ Hs rows.length (rfAt rf k).1 ∧ (rfAt rf k).1.length ≤ 4
/-- house, step, digits -/
abbrev Mv := Nat × Int × List Int
def mvD (m : Mv) : D := .tup [.int (m.1 : Nat), .int m.2.1, .tup (m.2.2.map D.int)]
structure GoodMv (rf : List RFn) (top : Int) (lv : List Int) (m : Mv) : Prop where
  house : m.1 < rf.length
  len : m.2.2.length = (rfAt rf m.1).1.length
  dig : Dig m.2.2
  read : ∀ (i : Nat) (h d : Int), (rfAt rf m.1).1[i]? = some h → m.2.2[i]? = some d → markI top (lv.getD h.toNat 0) = 2 ∨ markI top (lv.getD h.toNat 0) = d
  step : m.2.1 = 2 * (rfAt rf m.1).2 m.2.2 - 1
  lo : 0 ≤ lv.getD m.1 0 + m.2.1
  hi : lv.getD m.1 0 + m.2.1 ≤ top
def IsMv (L : LH) (d : D) (m : Mv) : Prop := ∃ dd, Is L d [.int (m.1 : Nat), .int m.2.1, dd] ∧ Is L dd (m.2.2.map D.int)
theorem IsMv.up {L L2 : LH} {d : D} {m : Mv} (h : IsMv L d m) (x : Ex' L L2) : IsMv L2 d m := by
  obtain ⟨dd, h1, h2⟩ := h
  exact ⟨dd, h1.mono x, h2.mono x⟩
theorem RowOk.dig {size : Int} {row : D} {hs : List Int} {f : List Int → Int} (h : RowOk size row) (hr : RowF row hs f) (ds : List Int) : f ds = 0 ∨ f ds = 1 := by
  cases hr with
  | rows hs bits =>
    generalize er : D.tup [.str "rows", .tup (hs.map D.int), .tup (bits.map D.int)] = row at h
    cases h with
    | terms _ _ _ _ _ _ _ _ _ _ _ => exact absurd er (by intro q; injection q with q; injection q with q; injection q with q; exact absurd q (by decide +kernel))
    | rows hs' bits' _ _ _ h01 =>
      injection er with er
      injection er with _ er
      injection er with _ er
      injection er with er2 _
      have e2 := D_int_inj (D.tup.inj er2)
      subst e2
      show bits.getD (idx ds).toNat 0 = 0 ∨ bits.getD (idx ds).toNat 0 = 1
      by_cases q : (idx ds).toNat < bits.length
      · have e : bits.getD (idx ds).toNat 0 = bits[(idx ds).toNat] := by simp [q]
        rw [e]
        exact h01 _ (List.getElem_mem q)
      · exact .inl (by simp [Nat.le_of_not_lt q])
  | terms hs sg ks hl =>
    show (if ks.any (holdsT hs sg ds) = true then (1 : Int) else 0) = 0 ∨ (if ks.any (holdsT hs sg ds) = true then (1 : Int) else 0) = 1
    split
    · exact .inr rfl
    · exact .inl rfl
theorem zip_at {L : LH} {t s2 : Sq} {hs ds : List Int} (ht : t.get L = some (hs.map D.int)) (hs2 : s2.get L = some (ds.map D.int)) (hl : ds.length = hs.length) {i : Nat} (hi : i ≤ hs.length) : Src.at L (.zip t s2) i = some (((List.range hs.length).map fun i => D.tup [.int (hs.getD i 0), .int (ds.getD i 0)])[i]?) := by
  unfold Src.at
  simp only [ht, hs2]
  by_cases q : i < hs.length
  · have e1 : (hs.map D.int)[i]? = some (.int (hs.getD i 0)) := by
      rw [map_at (List.getElem?_eq_getElem q)]
      simp [q]
    have e2 : (ds.map D.int)[i]? = some (.int (ds.getD i 0)) := by
      rw [map_at (List.getElem?_eq_getElem (show i < ds.length by omega))]
      simp [show i < ds.length by omega]
    simp only [e1, e2]
    simp [q]
  · have ei : i = hs.length := by omega
    have e1 : (hs.map D.int)[i]? = none := List.getElem?_eq_none_iff.mpr (by rw [List.length_map]; omega)
    simp only [e1]
    rw [if_pos ⟨by rw [List.length_map]; omega, by rw [List.length_map]; omega⟩]
    simp [ei]
/-- a zip of a tuple of ints and a row of ints -/
theorem rw_zipTS {L : LH} {hs ds : List Int} {d : D} {P : Src → LH → Prop} (hd : Is L d (ds.map D.int)) (hl : ds.length = hs.length) (hp : ∀ s, (∀ L2, Ex' L L2 → ∀ i, i ≤ hs.length → Src.at L2 s i = some (((List.range hs.length).map fun i => D.tup [.int (hs.getD i 0), .int (ds.getD i 0)])[i]?)) → P s L) : Rw (zipD [.tup (hs.map D.int), d] L) P := by
  unfold zipD
  cases hd with
  | tup =>
    simp only [sqD, Sq.get]
    exact hp _ fun L2 x i hi => zip_at (t := .t (hs.map D.int)) (s2 := .t (ds.map D.int)) rfl rfl hl hi
  | lst q =>
    simp only [sqD, Sq.get, q]
    exact hp _ fun L2 x i hi => zip_at (t := .t (hs.map D.int)) (s2 := .l _) rfl (x.lst q) hl hi
theorem w_can_read {L : LH} {room hs ds : List Int} {d : D} (h4 : hs.length ≤ 4) (hl : ds.length = hs.length) (hd : Is L d (ds.map D.int)) (hin : ∀ h ∈ hs, 0 ≤ h ∧ h < room.length) (hD : Dig ds) (hr : ∀ (i : Nat) (h d : Int), hs[i]? = some h → ds[i]? = some d → room.getD h.toNat 0 = 2 ∨ room.getD h.toNat 0 = d) :
    Rw (F_can_read K [.tup (room.map D.int), .tup (hs.map D.int), d] L) fun v L' => v = .bl true ∧ Ex' L L' := by
  unfold F_can_read m_can_read
  rw [rw_fnD]
  show Sw (sSeq _ _ [some (.tup (room.map D.int)), some (.tup (hs.map D.int)), some d] L) _ _
  rw [sw_seq, sw_if, rw_val, rw_op, rw_call, rw_cons, rw_var rfl, rw_nil]
  refine rw_lenS hd ?_
  rw [rw_call, rw_cons, rw_var rfl, rw_nil, rw_lenT, List.length_map, List.length_map, rw_neI, hl]
  show if (!decide _) = true then _ else _
  rw [if_neg (by rw [decide_eq_true rfl]; decide), sw_nx, sw_ret]
  refine rw_ag ?_
  rw [rw_arg, rw_cons, rw_var rfl, rw_cons, rw_var rfl, rw_nil]
  refine rw_zipTS hd hl fun s hat => ⟨(List.range hs.length).map fun i => D.tup [.int (hs.getD i 0), .int (ds.getD i 0)], fun _ => true, by simp; omega, fun L2 x2 i hi => hat L2 x2 i (by simpa using hi), fun e he L2 x2 => ?_, fun L2 x2 => ?_⟩
  · obtain ⟨i, hi, rfl⟩ := List.mem_map.mp he
    have hi2 := List.mem_range.mp hi
    have hi3 : i < ds.length := by omega
    refine ⟨_, gTp2 rfl, ?_⟩
    have eh : hs.getD i 0 = hs[i] := by simp [hi2]
    have ed : ds.getD i 0 = ds[i] := by simp [hi3]
    obtain ⟨h1, h2⟩ := hin _ (List.getElem_mem hi2)
    have hr2 := hr i _ _ (List.getElem?_eq_getElem hi2) (List.getElem?_eq_getElem hi3)
    have hd2 := hD _ (List.getElem_mem hi3)
    rw [eh, ed]
    generalize hs[i] = h at h1 h2 hr2 ⊢
    generalize ds[i] = z at hr2 hd2 ⊢
    have hk : h.toNat < room.length := by omega
    show Rw (eOp (inD false) _ _ [some (.int h), some (.int z), some (.tup (room.map D.int))] L2) _
    rw [rw_op, rw_var rfl, rw_fn, rw_cons, rw_op, rw_var rfl, rw_var rfl]
    refine rw_ixT (k := h.toNat) (d := .int (room.getD h.toNat 0)) (by rw [map_at (List.getElem?_eq_getElem hk)]; simp [hk]) (by omega) ?_
    rw [rw_nil]
    refine if_len rfl ?_
    refine w_digits_of.mono fun v L3 hv => ?_
    obtain ⟨rfl, x3⟩ := hv
    rw [rw_inI rfl]
    refine ⟨?_, x3⟩
    rw [decide_eq_true]
    by_cases q : room.getD h.toNat 0 = 2
    · rw [if_pos q]
      rcases hd2 with z1 | z1 <;> simp [z1]
    · rw [if_neg q]
      rcases hr2 with z1 | z1
      · exact absurd z1 q
      · exact List.mem_singleton.mpr z1.symm
  · rw [all_true]
    exact ⟨rfl, x2⟩
theorem w_is_good {L : LH} {w : Nat} {rows : List D} {rf : List RFn} {top : Int} {lv : List Int} {d : D} {m : Mv} (hnd : He.ga K "TermsTable" ≠ He.ga K "RowsTable") (hw : WebAt K L rows w) (hrf : RowsF rows rf) (hlv : lv.length = rows.length) (hrl : rows.length ≤ 12) (hd : IsMv L d m) (hg : GoodMv rf top lv m) :
    Rw (F_is_good K [.ref w, .int top, .tup (lv.map D.int), d] L) fun v L' => v = .bl true ∧ Ex' L L' := by
  obtain ⟨k, step, ds⟩ := m
  obtain ⟨dd, h1, h2⟩ := hd
  obtain ⟨g1, g2, g3, g4, g5, g6, g7⟩ := hg
  dsimp only at g1 g2 g3 g4 g5 g6 g7 h1 h2
  have hkr : k < rows.length := by have := hrf.len; omega
  have ekr : rows[k]? = some rows[k] := List.getElem?_eq_getElem hkr
  obtain ⟨r1, r2, r3, r4⟩ := hrf.at' k _ ekr
  generalize rows[k] = row at ekr r1 r2
  have hstep : step = 1 ∨ step = -1 := by
    rcases r1.dig r2 ds with q | q <;> rw [q] at g5 <;> omega
  obtain ⟨ts, q1, q2⟩ := hw
  have hkt : k < ts.length := by have := q2.1; omega
  have ekt : ts[k]? = some ts[k] := List.getElem?_eq_getElem hkt
  have htab := q2.2 k row _ ekr ekt
  generalize ts[k] = te at htab ekt
  have hkl : k < lv.length := by omega
  unfold F_is_good m_is_good
  rw [rw_fnD]
  show Sw (sSeq _ _ [some (.ref w), some (.int top), some (.tup (lv.map D.int)), some d, none, none, none, none] L) _ _
  rw [sw_seq]
  refine sw_asgE ?_
  rw [rw_var rfl]
  refine ⟨_, gTp3 h1.seq, ?_⟩
  rw [sw_seq, sw_if, rw_bOr, rw_not, rw_val, rw_chain, rw_k, rw_var rfl, rw_leI, decide_eq_true (by omega)]
  show if true = true then _ else _
  rw [if_pos rfl]
  refine rw_fld ?_
  rw [rw_var rfl]
  refine ⟨w, _, _, _, rfl, q1, rfl, cf_of (fs := ["size", "tables"]) (by decide) (by decide), ?_⟩
  rw [rw_ltI, decide_eq_true (by omega)]
  show if (!true) = true then _ else _
  rw [if_neg (by decide), rw_val, rw_op, rw_var rfl, rw_tup, rw_cons, rw_k, rw_cons, rw_un, rw_k, show ∀ P : D → LH → Prop, Rw (negD (.int 1) L) P = P (.int (-1)) L from fun _ => rfl, rw_nil]
  refine if_le (by show 2 ≤ 100000; decide) ?_
  rw [rw_ninI (ns := [1, -1]) rfl]
  show if (!decide _) = true then _ else _
  rw [if_neg (by rw [decide_eq_true (by simpa using hstep)]; decide), sw_nx]
  have elv : (lv.map D.int)[k]? = some (.int (lv.getD k 0)) := by rw [map_at (List.getElem?_eq_getElem hkl)]; simp [hkl]
  rw [sw_seq, sw_if, rw_not, rw_val, rw_chain, rw_k, rw_op, rw_op, rw_var rfl, rw_var rfl]
  refine rw_ixT elv rfl ?_
  rw [rw_var rfl, rw_addI, rw_leI, decide_eq_true g6]
  show if true = true then _ else _
  rw [if_pos rfl, rw_var rfl, rw_leI, decide_eq_true g7]
  show if (!true) = true then _ else _
  rw [if_neg (by decide), sw_nx]
  rw [sw_seq, sw_asgN, rw_op]
  refine rw_fld ?_
  rw [rw_var rfl]
  refine ⟨w, _, _, _, rfl, q1, rfl, cf_of (fs := ["size", "tables"]) (by decide) (by decide), ?_⟩
  rw [rw_var rfl]
  refine rw_ixT (k := k) ekt rfl ?_
  rw [sw_seq, sw_if, rw_not, rw_truL, rw_fn, rw_cons, rw_fn, rw_cons, rw_var rfl, rw_cons, rw_var rfl, rw_nil]
  refine if_len rfl ?_
  refine (w_readable (.tup _) (by omega)).mono fun v L1 hv => ?_
  obtain ⟨rfl, x1⟩ := hv
  rw [rw_cons]
  refine rw_heardF r2 ?_
  rw [rw_var rfl]
  refine ⟨htab.up x1, ?_⟩
  rw [rw_cons, rw_var rfl, rw_nil]
  refine if_len rfl ?_
  refine (w_can_read r4 g2 (h2.mono x1) (fun h hh => by have := r3.2 h hh; rw [List.length_map, hlv]; exact this) g3 (fun i h z e1 e2 => ?_)).mono fun v L2 hv => ?_
  · have hh := r3.2 h (List.mem_of_getElem? e1)
    have hk : h.toNat < lv.length := by omega
    have e : (lv.map (markI top)).getD h.toNat 0 = markI top (lv.getD h.toNat 0) := by simp [hk]
    rw [e]
    exact g4 i h z e1 e2
  obtain ⟨rfl, x2⟩ := hv
  show if (!true) = true then _ else _
  rw [if_neg (by decide), sw_nx, sw_ret, rw_op]
  have h3 := h2.mono (x1.trans x2)
  have hend : ∀ L3 : LH, Ex' L2 L3 → Rw (eFn 1 (F_digit_of_step K) (aCons (eVar 5) (aNil)) [some (.ref w), some (.int top), some (.tup (lv.map D.int)), some d, some (.int (k : Nat)), some (.int step), some dd, some te] L3) fun e L4 => Rw (eqD (.int ((rfAt rf k).2 ds)) e L4) fun v L' => v = .bl true ∧ Ex' L L' := fun L3 x3 => by
    rw [rw_fn, rw_cons, rw_var rfl, rw_nil]
    refine if_len rfl ?_
    refine (w_step hstep).mono fun v L4 hv => ?_
    obtain ⟨rfl, x4⟩ := hv
    rw [rw_eqI]
    refine ⟨?_, (x1.trans x2).trans (x3.trans x4)⟩
    rw [decide_eq_true]
    rcases r1.dig r2 ds with q | q <;> rw [q] at g5 ⊢ <;> rw [g5] <;> decide
  refine w_digitS hnd r1 r2 r3 r4 g3 g2 ?_
  rw [rw_var rfl]
  refine ⟨htab.up (x1.trans x2), ?_⟩
  rw [rw_cons, rw_var rfl, rw_nil]
  refine ⟨htab.up (x1.trans x2), dd, rfl, h3, fun L3 x3 => ?_⟩
  exact hend L3 x3
end K26
set_option Elab.async false
set_option linter.all false
set_option maxRecDepth 100000
set_option maxHeartbeats 2000000
namespace K26
open PySem PySem.Spec PyProof.Rows L2 GxR DW GxA DI
variable {K : PySem.W.Frag}
abbrev Bt := List Mv
def mvP (lv a : List Int) (m : Mv) : List Int := a.set m.1 (lv.getD m.1 0 + m.2.1)
def beatL (lv : List Int) (b : Bt) : List Int := b.foldl (mvP lv) lv
def lvAt (lv : List Int) (run : List Bt) (i : Nat) : List Int := (run.take i).foldl beatL lv
structure GoodBt (rf : List RFn) (top : Int) (lv : List Int) (b : Bt) : Prop where
  asc : b.Pairwise fun a b => a.1 < b.1
  all : ∀ m ∈ b, GoodMv rf top lv m
  len : b.length ≤ 1000
def IsMs (L : LH) (d : D) (b : Bt) : Prop := ∃ mds, Is L d mds ∧ mds.length = b.length ∧ ∀ (i : Nat) (d : D) (m : Mv), mds[i]? = some d → b[i]? = some m → IsMv L d m
theorem IsMs.up {L L2 : LH} {d : D} {b : Bt} (h : IsMs L d b) (x : Ex' L L2) : IsMs L2 d b := by
  obtain ⟨lds, h1, h2, h3⟩ := h
  exact ⟨lds, h1.mono x, h2, fun i d l e1 e2 => (h3 i d l e1 e2).up x⟩
theorem fold_len {lv : List Int} : ∀ (b : Bt) (a : List Int), (b.foldl (mvP lv) a).length = a.length
  | [], a => rfl
  | m :: b, a => by
    rw [List.foldl_cons, fold_len b]
    unfold mvP
    rw [List.length_set]
theorem rw_enumS {L0 L : LH} {d : D} {xs : List D} {P : Src → LH → Prop} (h : Is L0 d xs) (x : Ex' L0 L) (hp : ∀ s, (∀ L2, Ex' L0 L2 → ∀ i, i ≤ xs.length → Src.at L2 s i = some (((List.range xs.length).map fun i => D.tup [.int (i : Nat), xs.getD i .non])[i]?)) → P s L) : Rw (enumD [d] L) P := by
  have key : ∀ (q : Sq) (L2 : LH) (i : Nat), q.get L2 = some xs → i ≤ xs.length → Src.at L2 (.enum q) i = some (((List.range xs.length).map fun i => D.tup [.int (i : Nat), xs.getD i .non])[i]?) := fun q L2 i e hi => by
    unfold Src.at
    simp only [e]
    by_cases z : i < xs.length
    · simp [z]
    · have e : xs.length = i := by omega
      simp [e]
  unfold enumD
  cases h with
  | tup =>
    simp only [sqD, Sq.get]
    exact hp _ fun L2 _ i hi => key _ L2 i rfl hi
  | lst q =>
    simp only [sqD, Sq.get, x.lst q]
    exact hp _ fun L2 x i hi => key _ L2 i (x.lst q) hi
theorem w_levels_after {L : LH} {w bi : Nat} {d : D} {rows : List D} {rf : List RFn} {top : Int} {lv : List Int} {b : Bt} (hnd : He.ga K "TermsTable" ≠ He.ga K "RowsTable") (hw : WebAt K L rows w) (hrf : RowsF rows rf) (hlv : lv.length = rows.length) (hrl : rows.length ≤ 12) (hd : IsMs L d b) (hg : GoodBt rf top lv b) :
    Rw (F_levels_after K [.ref w, .int top, .tup (lv.map D.int), .int (bi : Nat), d] L) fun v L' => v = .tup ((beatL lv b).map D.int) ∧ Ex' L L' := by
  obtain ⟨mds, hds, hml, hm⟩ := hd
  obtain ⟨g1, g2, g3⟩ := hg
  unfold F_levels_after m_levels_after
  rw [rw_fnD]
  show Sw (sSeq _ _ [some (.ref w), some (.int top), some (.tup (lv.map D.int)), some (.int (bi : Nat)), some d, none, none, none, none, none, none, none] L) _ _
  rw [sw_seq, sw_asgN, rw_call, rw_cons, rw_var rfl, rw_nil]
  refine rw_listD (.tup _) fun L1 x1 c1 => ?_
  rw [sw_seq, sw_asgN, rw_un, rw_k, show ∀ P : D → LH → Prop, Rw (negD (.int 1) L1) P = P (.int (-1)) L1 from fun _ => rfl, sw_seq, sw_for, rw_arg, rw_cons, rw_var rfl, rw_nil]
  refine rw_enumS hds x1 fun s hat => ?_
  refine forD_w (xs := (List.range mds.length).map fun i => D.tup [.int (i : Nat), mds.getD i .non])
    (fun i env L' => ∃ (last : Int) (s7 s8 s9 s10 s11 : Option D), env = [some (.ref w), some (.int top), some (.tup (lv.map D.int)), some (.int (bi : Nat)), some d, some (.ref L.length), some (.int last), s7, s8, s9, s10, s11] ∧ Ex' L L' ∧ (last = -1 ∨ ∃ q l, q < i ∧ b[q]? = some l ∧ last = (l.1 : Nat)) ∧ L'[L.length]? = some (.lst true (((b.take i).foldl (mvP lv) lv).map D.int)))
    (fun i env L' hi hI => by obtain ⟨_, _, _, _, _, _, _, x, _⟩ := hI; exact hat L' x i (by simpa using hi)) (fun i env L' e hd2 hI => ?_) (fun env L' hI => ?_) turnsN 0 _ _ (by simp [turnsN]; omega) (Nat.zero_le _) ⟨-1, none, none, none, none, none, rfl, x1, .inl rfl, c1⟩
  · obtain ⟨last, s7, s8, s9, s10, s11, rfl, x, hlast, c⟩ := hI
    have hi : i < mds.length := by
      have := (List.getElem?_eq_some_iff.mp hd2).1
      simpa using this
    have hi2 : i < b.length := by omega
    have ed : e = .tup [.int (i : Nat), mds[i]] := by
      rw [List.getElem?_map, List.getElem?_range hi] at hd2
      have := Option.some.inj hd2
      rw [← this]
      simp [hi]
    subst ed
    have el : b[i]? = some b[i] := List.getElem?_eq_getElem hi2
    have hmi := (hm i _ _ (List.getElem?_eq_getElem hi) el).up x
    have hgi := g2 _ (List.getElem_mem hi2)
    have hlt : last < (b[i].1 : Int) := by
      rcases hlast with q | ⟨q, l, q1, q2, q3⟩
      · omega
      · obtain ⟨q4, rfl⟩ := List.getElem?_eq_some_iff.mp q2
        have := List.pairwise_iff_getElem.mp g1 q i q4 hi2 q1
        omega
    have etk : (b.take (i + 1)).foldl (mvP lv) lv = mvP lv ((b.take i).foldl (mvP lv) lv) b[i] := by
      rw [List.take_succ, el, List.foldl_append]
      rfl
    have hnow := fold_len (lv := lv) (b.take i) lv
    generalize (b.take i).foldl (mvP lv) lv = now at c etk hnow
    generalize b[i] = m at el hmi hgi hlt etk
    obtain ⟨dd, h1, h2⟩ := id hmi
    have hk : m.1 < rows.length := by have := hgi.house; have := hrf.len; omega
    refine ⟨_, gTp2 rfl, ?_⟩
    rw [sw_seq]
    refine sw_asgE ?_
    rw [rw_var rfl]
    refine ⟨_, gTp3 h1.seq, ?_⟩
    rw [sw_seq, sw_if, rw_bOr, rw_val, rw_op, rw_var rfl, rw_var rfl, rw_leI]
    show if decide _ = true then _ else _
    rw [if_neg (by rw [decide_eq_false (by exact Int.not_le.mpr hlt)]; decide), rw_not, rw_truL, rw_fn, rw_cons, rw_var rfl, rw_cons, rw_var rfl, rw_cons, rw_var rfl, rw_cons, rw_var rfl, rw_nil]
    refine if_len rfl ?_
    have hwx : WebAt K L' rows w := by
      obtain ⟨ts, q1, q2⟩ := hw
      exact ⟨ts, x _ _ q1, q2.1, fun i d e e1 e2 => (q2.2 i d e e1 e2).up x⟩
    refine (w_is_good hnd hwx hrf hlv hrl hmi hgi).mono fun v L3 hv => ?_
    obtain ⟨rfl, x3⟩ := hv
    show if (!true) = true then _ else _
    rw [if_neg (by decide), sw_nx, sw_seq]
    have c3 := x3 _ _ c
    have hkl : m.1 < lv.length := by omega
    refine sw_set ?_
    rw [rw_op, rw_op, rw_var rfl, rw_var rfl]
    refine rw_ixT (k := m.1) (d := .int (lv.getD m.1 0)) (by rw [map_at (List.getElem?_eq_getElem hkl)]; simp [hkl]) rfl ?_
    rw [rw_var rfl, rw_addI, rw_var rfl, rw_var rfl]
    refine ⟨L.length, m.1, _, rfl, rfl, c3, by rw [List.length_map]; omega, ?_⟩
    rw [sw_asgN, rw_var rfl]
    refine ⟨(m.1 : Int), _, _, _, _, _, rfl, (x.trans x3).set (Nat.le_refl _), .inr ⟨i, m, Nat.lt_succ_self i, el, rfl⟩, ?_⟩
    rw [List.getElem?_set_self (List.getElem?_eq_some_iff.mp c3).1, etk]
    unfold mvP
    rw [List.map_set]
  · obtain ⟨last, s7, s8, s9, s10, s11, rfl, x, _, c⟩ := hI
    rw [sw_ret, rw_call, rw_cons, rw_var rfl, rw_nil, rw_tupleL (lst_of c)]
    refine ⟨?_, x⟩
    rw [List.length_map, List.length_range, hml, List.take_length]
    rfl
theorem lvAt_succ {lv : List Int} {run : List Bt} {i : Nat} {b : Bt} (e : run[i]? = some b) : lvAt lv run (i + 1) = beatL (lvAt lv run i) b := by
  unfold lvAt
  rw [List.take_succ, e, List.foldl_append]
  rfl
theorem lvAt_zero {lv : List Int} {run : List Bt} : lvAt lv run 0 = lv := rfl
def lvsD (lv : List Int) (run : List Bt) (n : Nat) : List D := (List.range n).map fun i => D.tup ((lvAt lv run i).map D.int)
theorem lvsD_succ {lv : List Int} {run : List Bt} {n : Nat} : lvsD lv run (n + 1) = lvsD lv run n ++ [.tup ((lvAt lv run n).map D.int)] := by
  unfold lvsD
  rw [List.range_succ, List.map_append]
  rfl
theorem lvsD_len {lv : List Int} {run : List Bt} {n : Nat} : (lvsD lv run n).length = n := by
  unfold lvsD
  rw [List.length_map, List.length_range]
structure GoodRun (rf : List RFn) (top : Int) (lv : List Int) (run : List Bt) : Prop where
  all : ∀ (i : Nat) (b : Bt), run[i]? = some b → GoodBt rf top (lvAt lv run i) b
theorem beatL_len {lv : List Int} {b : Bt} : (beatL lv b).length = lv.length := fold_len b lv
theorem lvAt_len {lv : List Int} {run : List Bt} : ∀ {i : Nat}, (lvAt lv run i).length = lv.length := fun {i} => by
  unfold lvAt
  have : ∀ (r : List Bt) (a : List Int), (r.foldl beatL a).length = a.length := by
    intro r
    induction r with
    | nil => intro a; rfl
    | cons b r ih => intro a; rw [List.foldl_cons, ih, beatL_len]
  exact this _ _
def IsRn (L : LH) (d : D) (run : List Bt) : Prop := ∃ bds, Is L d bds ∧ bds.length = run.length ∧ ∀ (i : Nat) (d : D) (b : Bt), bds[i]? = some d → run[i]? = some b → IsMs L d b
theorem w_fine_states {L : LH} {w : Nat} {sd rd : D} {rows : List D} {rf : List RFn} {top : Int} {st : List Int} {run : List Bt} (hnd : He.ga K "TermsTable" ≠ He.ga K "RowsTable") (hw : WebAt K L rows w) (hrf : RowsF rows rf) (hrl : rows.length ≤ 12) (ht : TopOk top) (hs : Is L sd (st.map D.int)) (hsl : st.length = rows.length) (hD : Dig st)
    (hr : IsRn L rd run) (hg : GoodRun rf top (st.map (top * ·)) run) (hl : run.length ≤ 500) :
    Rw (F_fine_states K [.ref w, .int top, sd, rd] L) fun v L' => v = .tup (lvsD (st.map (top * ·)) run (run.length + 1)) ∧ Ex' L L' := by
  obtain ⟨bds, hb1, hb2, hb3⟩ := hr
  unfold F_fine_states m_fine_states
  rw [rw_fnD]
  show Sw (sSeq _ _ [some (.ref w), some (.int top), some sd, some rd] L) _ _
  rw [sw_seq, sw_drop, rw_fn, rw_cons, rw_var rfl, rw_cons, rw_k, rw_nil]
  refine if_len rfl ?_
  refine (w_check_top ht).mono fun v L1 x1 => ?_
  rw [sw_seq, sw_asgN, rw_fn, rw_cons]
  obtain ⟨ts, q1, q2⟩ := id hw
  refine rw_fld ?_
  rw [rw_var rfl]
  refine ⟨w, _, _, _, rfl, x1 _ _ q1, rfl, cf_of (fs := ["size", "tables"]) (by decide) (by decide), ?_⟩
  rw [rw_cons, rw_var rfl, rw_nil]
  refine if_len rfl ?_
  refine (w_as_state (hs.mono x1) hsl (by omega) hD).mono fun v L2 hv => ?_
  obtain ⟨rfl, x2⟩ := hv
  rw [sw_ret, rw_fn, rw_cons, rw_var rfl, rw_cons, rw_var rfl, rw_cons, rw_var rfl, rw_cons, rw_var rfl, rw_nil]
  refine if_len rfl ?_
  have x12 := x1.trans x2
  unfold F_levels_along m_levels_along
  rw [rw_fnD]
  show Sw (sSeq _ _ [some (.ref w), some (.int top), some (.tup (st.map D.int)), some rd, none, none, none, none] L2) _ _
  rw [sw_seq, sw_asgN, rw_fn, rw_cons, rw_var rfl, rw_cons, rw_var rfl, rw_nil]
  refine if_len rfl ?_
  refine (w_corner_of ht (.tup _) (by omega) hD).mono fun v L3 hv => ?_
  obtain ⟨rfl, x3⟩ := hv
  have hl0 : (st.map (top * ·)).length = rows.length := by rw [List.length_map, hsl]
  generalize st.map (top * ·) = lv at hg hl0 ⊢
  rw [sw_seq, sw_asgN]
  refine rw_lstW ?_
  rw [rw_cons, rw_var rfl, rw_nil]
  refine ⟨by show (1 : Nat) ≤ 100000; decide, fun L4 x4 c4 => ?_⟩
  have y4 := (x12.trans x3).trans x4
  rw [sw_seq, sw_for, rw_arg, rw_cons, rw_var rfl, rw_nil]
  refine rw_enumS hb1 y4 fun s hat => ?_
  have l3 : L.length ≤ L3.length := (x12.trans x3).le
  refine forD_w (xs := (List.range bds.length).map fun i => D.tup [.int (i : Nat), bds.getD i .non])
    (fun i env L' => ∃ (s6 s7 : Option D), env = [some (.ref w), some (.int top), some (.tup (st.map D.int)), some rd, some (.tup ((lvAt lv run i).map D.int)), some (.ref L3.length), s6, s7] ∧ Ex' L L' ∧ L'[L3.length]? = some (.lst true (lvsD lv run (i + 1))))
    (fun i env L' hi hI => by obtain ⟨_, _, _, x, _⟩ := hI; exact hat L' x i (by simpa using hi)) (fun i env L' e hd2 hI => ?_) (fun env L' hI => ?_) turnsN 0 _ _ (by simp [turnsN]; omega) (Nat.zero_le _) ⟨none, none, rfl, y4, c4⟩
  · obtain ⟨s6, s7, rfl, x, c⟩ := hI
    have hi : i < bds.length := by
      have := (List.getElem?_eq_some_iff.mp hd2).1
      simpa using this
    have hi2 : i < run.length := by omega
    have ed : e = .tup [.int (i : Nat), bds[i]] := by
      rw [List.getElem?_map, List.getElem?_range hi] at hd2
      have := Option.some.inj hd2
      rw [← this]
      simp [hi]
    subst ed
    have el : run[i]? = some run[i] := List.getElem?_eq_getElem hi2
    have hmi := (hb3 i _ _ (List.getElem?_eq_getElem hi) el).up x
    have hgi := hg.all i _ el
    have esu := lvAt_succ (lv := lv) el
    have hll := lvAt_len (lv := lv) (run := run) (i := i)
    rw [lvsD_succ (n := i + 1), esu]
    generalize run[i] = b at el hmi hgi esu
    generalize lvAt lv run i = cur at hgi hll
    refine ⟨_, gTp2 rfl, ?_⟩
    have hwx : WebAt K L' rows w := by
      exact ⟨ts, x _ _ q1, q2.1, fun i d e e1 e2 => (q2.2 i d e e1 e2).up x⟩
    rw [sw_seq, sw_asgN, rw_fn, rw_cons, rw_var rfl, rw_cons, rw_var rfl, rw_cons, rw_var rfl, rw_cons, rw_var rfl, rw_cons, rw_var rfl, rw_nil]
    refine if_len rfl ?_
    refine (w_levels_after hnd hwx hrf (by omega) hrl hmi hgi).mono fun v L5 hv => ?_
    obtain ⟨rfl, x5⟩ := hv
    have c5 := x5 _ _ c
    rw [sw_drop, rw_bm, rw_var rfl, if_pos (isL_of c5), rw_cons, rw_var rfl, rw_nil]
    refine rw_app c5 (by rw [lvsD_len]; omega) ?_
    refine ⟨_, _, rfl, (x.trans x5).set l3, ?_⟩
    rw [List.getElem?_set_self (List.getElem?_eq_some_iff.mp c5).1]
  · obtain ⟨s6, s7, rfl, x, c⟩ := hI
    rw [List.length_map, List.length_range, hb2] at c
    rw [sw_ret, rw_call, rw_cons, rw_var rfl, rw_nil, rw_tupleL (lst_of c)]
    exact ⟨rfl, x⟩
end K26
set_option Elab.async false
set_option linter.all false
set_option maxRecDepth 100000
set_option maxHeartbeats 2000000
namespace K26
open PySem PySem.Spec PyProof.Rows L2 GxR DW GxA DI
variable {K : PySem.W.Frag}
theorem w_integers {L : LH} {ns : List Int} {n : Int} (hn : n = ns.length) (hl : ns.length ≤ 1000) : Rw (F__law_integers K [.tup (ns.map D.int), .int n] L) fun v L' => v = .bl true ∧ Ex' L L' := by
  subst hn
  unfold F__law_integers m__law_integers
  rw [rw_fnD]
  show Sw (sSeq _ _ [some (.tup (ns.map D.int)), some (.int (ns.length : Nat)), none] L) _ _
  rw [sw_seq, sw_if, rw_bOr, rw_not, rw_truL, rw_call, rw_cons, rw_var rfl, rw_cons, rw_k, rw_nil]
  rw [show ∀ P : D → LH → Prop, Rw (isiD [.tup (ns.map D.int), .ty "tuple"] L) P = P (.bl true) L from fun _ => rfl]
  show if (!true) = true then _ else _
  rw [if_neg (by decide), rw_val, rw_op, rw_call, rw_cons, rw_var rfl, rw_nil, rw_lenT, List.length_map, rw_var rfl, rw_neI]
  show if (!decide _) = true then _ else _
  rw [if_neg (by rw [decide_eq_true rfl]; decide), sw_nx, sw_ret, rw_notT]
  refine rw_lc ?_
  rw [rw_src, rw_var rfl]
  refine rw_srcT ⟨ns.map D.int, fun _ => false, id, by rw [List.length_map]; omega, fun L2 _ i _ => src_atT, fun d hd L2 x2 => ?_, fun L2 x2 c2 => ?_⟩
  · obtain ⟨z, hz, rfl⟩ := List.mem_map.mp hd
    refine ⟨_, rfl, ?_⟩
    rw [rw_bOr, rw_truL, rw_call, rw_cons, rw_var rfl, rw_cons, rw_k, rw_nil]
    rw [show ∀ P : D → LH → Prop, Rw (isiD [.int z, .ty "bool"] L2) P = P (.bl false) L2 from fun _ => rfl]
    show if false = true then _ else _
    rw [if_neg (by decide), rw_not, rw_truL, rw_call, rw_cons, rw_var rfl, rw_cons, rw_k, rw_nil]
    rw [show ∀ P : D → LH → Prop, Rw (isiD [.int z, .ty "int"] L2) P = P (.bl true) L2 from fun _ => rfl]
    exact ⟨rfl, Ex'.refl, fun h => nomatch h⟩
  · rw [tru_lst (lst_of c2)]
    have e : ((ns.map D.int).filter fun _ => false).map id = [] := by simp
    rw [e]
    exact ⟨rfl, x2⟩
theorem rw_neTI {P : D → LH → Prop} {L : LH} {ns : List Int} : Rw (neD (.tup (ns.map D.int)) (.tup (ns.map D.int)) L) P = P (.bl false) L := by
  have e : ∀ P : D → LH → Prop, Rw (neD (tupI ns) (tupI ns) L) P = P (.bl (!decide (ns = ns))) L := fun P => rw_neT
  have e2 := e P
  rw [decide_eq_true rfl] at e2
  exact e2
/-- the walk is as expected -/
theorem w_walk_is {L : LH} {w mw : Nat} {sd rd : D} {rows : List D} {rf : List RFn} {top : Int} {st : List Int} {run : List Bt} (hnd : He.ga K "TermsTable" ≠ He.ga K "RowsTable") (hw : WebAt K L rows w) (hrf : RowsF rows rf) (hrl : rows.length ≤ 12) (ht : TopOk top) (hs : Is L sd (st.map D.int)) (hsl : st.length = rows.length) (hD : Dig st)
    (hr : IsRn L rd run) (hg : GoodRun rf top (st.map (top * ·)) run) (hl : run.length ≤ 500) (hm : lstAt L mw = some (lvsD (st.map (top * ·)) run (run.length + 1))) :
    Rw (F__law_walk_is K [.ref w, .int top, sd, rd, .ref mw] L) fun v L' => v = .bl true ∧ Ex' L L' := by
  unfold F__law_walk_is m__law_walk_is
  rw [rw_fnD]
  show Sw (sSeq _ _ [some (.ref w), some (.int top), some sd, some rd, some (.ref mw), none, none] L) _ _
  rw [sw_seq]
  refine sw_try ?_
  rw [sw_asgN, rw_fn, rw_cons, rw_var rfl, rw_cons, rw_var rfl, rw_cons, rw_var rfl, rw_cons, rw_var rfl, rw_nil]
  refine if_len rfl ?_
  refine (w_fine_states hnd hw hrf hrl ht hs hsl hD hr hg hl).mono fun v L1 hv => ?_
  obtain ⟨rfl, x1⟩ := hv
  have hl0 : (st.map (top * ·)).length = rows.length := by rw [List.length_map, hsl]
  generalize st.map (top * ·) = lv at hm hl0 ⊢
  rw [sw_seq, sw_if, rw_bOr, rw_not, rw_truL, rw_call, rw_cons, rw_var rfl, rw_cons, rw_k, rw_nil]
  rw [show ∀ P : D → LH → Prop, Rw (isiD [.tup (lvsD lv run (run.length + 1)), .ty "tuple"] L1) P = P (.bl true) L1 from fun _ => rfl]
  show if (!true) = true then _ else _
  rw [if_neg (by decide), rw_val, rw_op, rw_call, rw_cons, rw_var rfl, rw_nil, rw_lenT, rw_call, rw_cons, rw_var rfl, rw_nil]
  refine rw_lenL (x1.lst hm) ?_
  rw [rw_neI, decide_eq_true rfl]
  show if (!true) = true then _ else _
  rw [if_neg (by decide), sw_nx, sw_seq, sw_for, rw_arg, rw_cons, rw_call, rw_cons, rw_var rfl, rw_nil]
  refine rw_lenL (x1.lst hm) ?_
  rw [rw_nil]
  have hnn : (lvsD lv run (run.length + 1)).length = run.length + 1 := lvsD_len
  generalize (lvsD lv run (run.length + 1)).length = nn at hnn ⊢
  refine rw_rng1 (by omega) ?_
  rw [Int.toNat_natCast]
  refine forD_w (xs := (List.range nn).map fun k => D.int (k : Nat)) (fun i env L' => ∃ s6, env = [some (.ref w), some (.int top), some sd, some rd, some (.ref mw), some (.tup (lvsD lv run (run.length + 1))), s6] ∧ Ex' L L') (fun i env L' _ _ => rng_at) (fun i env L' e hd2 hI => ?_) (fun env L' hI => ?_) turnsN 0 _ _ (by simp [turnsN]; omega) (Nat.zero_le _) ⟨none, rfl, x1⟩
  · obtain ⟨s6, rfl, x⟩ := hI
    have hi : i < nn := by
      have := (List.getElem?_eq_some_iff.mp hd2).1
      simpa using this
    have ed : e = .int (i : Nat) := by
      rw [List.getElem?_map, List.getElem?_range hi] at hd2
      cases hd2
      rfl
    subst ed
    have hi' : i < run.length + 1 := by omega
    have hz : (lvsD lv run (run.length + 1))[i]? = some (.tup ((lvAt lv run i).map D.int)) := by
      unfold lvsD
      rw [List.getElem?_map, List.getElem?_range hi']
      rfl
    have hll := lvAt_len (lv := lv) (run := run) (i := i)
    refine ⟨_, rfl, ?_⟩
    rw [sw_if, rw_bOr, rw_not, rw_truL, rw_fn, rw_cons, rw_op, rw_var rfl, rw_var rfl]
    refine rw_ixT hz rfl ?_
    rw [rw_cons, rw_call, rw_cons, rw_var rfl, rw_nil]
    refine rw_lenS (hs.mono x) ?_
    rw [rw_nil]
    refine if_len rfl ?_
    refine (w_integers (by rw [List.length_map]; omega) (by omega)).mono fun v L3 hv => ?_
    obtain ⟨rfl, x3⟩ := hv
    show if (!true) = true then _ else _
    rw [if_neg (by decide), rw_val, rw_op, rw_op, rw_var rfl, rw_var rfl]
    refine rw_ixT hz rfl ?_
    rw [rw_op, rw_var rfl, rw_var rfl]
    refine rw_ixL ((x.trans x3).lst hm) hz rfl ?_
    rw [rw_neTI]
    show (if false = true then _ else _)
    rw [if_neg (by decide), sw_nx]
    exact ⟨_, rfl, x.trans x3⟩
  · obtain ⟨s6, rfl, x⟩ := hI
    rw [sw_ret, rw_k]
    exact ⟨rfl, x⟩
theorem w_rooms_are {L : LH} {top : Int} {lv : List Int} (ht : TopOk top) (hl : 1 ≤ lv.length ∧ lv.length ≤ 12) (hv : LvOk top lv) : Rw (F__law_rooms_are K [.int top, .tup (lv.map D.int)] L) fun v L' => v = .bl true ∧ Ex' L L' := by
  unfold F__law_rooms_are m__law_rooms_are
  rw [rw_fnD]
  show Sw (sSeq _ _ [some (.int top), some (.tup (lv.map D.int)), none, none, none, none, none] L) _ _
  rw [sw_seq, sw_asgN]
  refine w_mapT (ns := lv) (g := markI top) (by show 3 < 7; decide) (by omega) ?_
  rw [rw_src, rw_var rfl]
  refine rw_srcT ⟨fun L2 _ i _ => src_atT, fun z hz L2 x2 => ?_, fun L1 x1 => ?_⟩
  · rw [rw_fn, rw_cons, rw_var rfl, rw_cons]
    rw [show ∀ P : D → LH → Prop, Rw (eVar 3 ((wipeE [some (.int top), some (.tup (lv.map D.int)), none, none, none, none, none] [3]).set 3 (some (.int z))) L2) P = P (.int z) L2 from fun _ => rfl, rw_nil]
    refine if_len rfl ?_
    exact w_law_mark
  rw [sw_seq, sw_asgN, rw_fn, rw_cons, rw_var rfl, rw_cons, rw_call, rw_cons, rw_var rfl, rw_nil]
  refine rw_listD (.tup _) fun L2 x2 c2 => ?_
  rw [rw_nil]
  refine if_len rfl ?_
  refine (w_reading_room ht (.lst (lst_of c2)) hl hv).mono fun v L3 hv3 => ?_
  obtain ⟨rfl, x3⟩ := hv3
  have hml : (lv.map (markI top)).length = lv.length := by rw [List.length_map]
  rw [sw_seq, sw_if, rw_bOr, rw_not, rw_truL, rw_fn, rw_cons, rw_var rfl, rw_cons, rw_call, rw_cons, rw_var rfl, rw_nil, rw_lenT, rw_nil]
  refine if_len rfl ?_
  refine (w_integers (by rw [List.length_map, hml]) (by omega)).mono fun v L4 hv4 => ?_
  obtain ⟨rfl, x4⟩ := hv4
  show if (!true) = true then _ else _
  rw [if_neg (by decide), rw_val, rw_op, rw_var rfl, rw_var rfl, rw_neTI]
  show (if false = true then _ else _)
  rw [if_neg (by decide), sw_nx]
  have y4 := ((x1.trans x2).trans x3).trans x4
  rw [sw_seq, sw_asgN, rw_fn, rw_cons, rw_var rfl, rw_cons, rw_call, rw_cons, rw_var rfl, rw_nil]
  refine rw_listD (.tup _) fun L5 x5 c5 => ?_
  rw [rw_nil]
  refine if_len rfl ?_
  refine (w_corner_state ht (.lst (lst_of c5)) hl hv).mono fun v L6 hv6 => ?_
  obtain ⟨rfl, x6⟩ := hv6
  have y6 := (y4.trans x5).trans x6
  rw [sw_seq, sw_if, rw_val, rw_op, rw_k, rw_var rfl, rw_inI rfl]
  show if decide _ = true then _ else _
  unfold stateD
  by_cases q : (2 : Int) ∈ lv.map (markI top)
  · rw [if_pos (decide_eq_true q), sw_ret, rw_op]
    simp only [if_pos q]
    rw [rw_var rfl, rw_k]
    exact ⟨rfl, y6⟩
  · rw [if_neg (by rw [decide_eq_false q]; decide), sw_nx]
    simp only [if_neg q]
    rw [sw_seq, sw_if, rw_bOr, rw_not, rw_truL, rw_fn, rw_cons, rw_var rfl, rw_cons, rw_call, rw_cons, rw_var rfl, rw_nil, rw_lenT, rw_nil]
    refine if_len rfl ?_
    refine (w_integers (by rw [List.length_map, hml]) (by omega)).mono fun v L7 hv7 => ?_
    obtain ⟨rfl, x7⟩ := hv7
    show if (!true) = true then _ else _
    rw [if_neg (by decide), rw_val, rw_op, rw_var rfl, rw_var rfl, rw_neTI]
    show (if false = true then _ else _)
    rw [if_neg (by decide), sw_nx]
    -- the corner of the marks
    have hno : ∀ l ∈ lv, l = 0 ∨ l = top := fun l hlm => by
      have h2 : markI top l ≠ 2 := fun z => q (List.mem_map.mpr ⟨l, hlm, z⟩)
      unfold markI at h2
      by_cases a : l = 0
      · exact .inl a
      · rw [if_neg a] at h2
        by_cases b : l = top
        · exact .inr b
        · rw [if_neg b] at h2
          exact absurd rfl h2
    have hne : top ≠ 0 := by have := ht.1; omega
    have hmd : Dig (lv.map (markI top)) := fun m hm => by
      obtain ⟨l, hlm, rfl⟩ := List.mem_map.mp hm
      rcases hno l hlm with a | a
      · left; rw [a]; unfold markI; simp
      · right; rw [a]; unfold markI; simp [hne]
    have hback : (lv.map (markI top)).map (top * ·) = lv := by
      rw [List.map_map]
      refine (List.map_congr_left fun l hlm => ?_).trans (List.map_id lv)
      show top * markI top l = l
      rcases hno l hlm with a | a
      · rw [a]; unfold markI; simp
      · rw [a]; unfold markI; simp [hne]
    rw [sw_seq, sw_asgN, rw_fn, rw_cons, rw_var rfl, rw_cons, rw_call, rw_cons, rw_var rfl, rw_nil]
    refine rw_listD (.tup _) fun L8 x8 c8 => ?_
    rw [rw_nil]
    refine if_len rfl ?_
    refine (w_corner ht (.lst (lst_of c8)) (by rw [hml]; exact hl) hmd).mono fun v L9 hv9 => ?_
    obtain ⟨rfl, x9⟩ := hv9
    rw [hback, sw_ret, rw_and, rw_fn, rw_cons, rw_var rfl, rw_cons, rw_call, rw_cons, rw_var rfl, rw_nil, rw_lenT, rw_nil]
    refine if_len rfl ?_
    refine (w_integers (by rw [List.length_map]) (by omega)).mono fun v L10 hv10 => ?_
    obtain ⟨rfl, x10⟩ := hv10
    show if true = true then _ else _
    rw [if_pos rfl, rw_op, rw_var rfl, rw_call, rw_cons, rw_var rfl, rw_nil, rw_tupleT]
    have e : ∀ P : D → LH → Prop, Rw (eqD (tupI lv) (tupI lv) L10) P = P (.bl true) L10 := fun P => by
      rw [rw_eq (p := ptI lv) (q := ptI lv) pd_tupI pd_tupI shaped_ptI shaped_ptI, eqv_ptI, decide_eq_true rfl]
    exact (e _).symm ▸ ⟨rfl, (((y6.trans x7).trans x8).trans x9).trans x10⟩
end K26
set_option Elab.async false
set_option linter.all false
set_option maxRecDepth 100000
set_option maxHeartbeats 2000000
namespace K26
open PySem PySem.Spec PyProof.Rows L2 GxR DW GxA DI
variable {K : PySem.W.Frag}
theorem mark_dig {top l : Int} (h : markI top l ≠ 2) : markI top l = 0 ∨ markI top l = 1 := by
  unfold markI at h ⊢
  by_cases a : l = 0
  · rw [if_pos a]; exact .inl rfl
  · rw [if_neg a] at h ⊢
    by_cases b : l = top
    · rw [if_pos b]; exact .inr rfl
    · rw [if_neg b] at h
      exact absurd rfl h
theorem w_law_beat {L : LH} {r m : Nat} {rows : List D} {rf : List RFn} {top : Int} {lv ds : List Int} (hr : lstAt L r = some rows) (hrf : RowsF rows rf) (hrl : rows.length ≤ 12) (ht : TopOk top) (hlv : lv.length = rows.length) (hd : lstAt L m = some (ds.map D.int)) (hdr : Drawn (List.replicate rows.length 4 ++ List.replicate (4 * rows.length) 2) ds) :
    Rw (F__law_beat K [.ref r, .int top, .tup (lv.map D.int), .ref m] L) fun v L' => Ex' L L' ∧ ∃ b : Bt, v = .ref L.length ∧ L'[L.length]? = some (.lst true (b.map mvD)) ∧ GoodBt rf top lv b ∧ b.length ≤ 12 := by
  unfold F__law_beat m__law_beat
  rw [rw_fnD]
  show Sw (sSeq _ _ [some (.ref r), some (.int top), some (.tup (lv.map D.int)), some (.ref m), none, none, none, none, none, none, none, none, none] L) _ _
  rw [sw_seq, sw_asgN, rw_call, rw_cons, rw_var rfl, rw_nil]
  refine rw_lenL hr ?_
  rw [sw_seq, sw_asgN]
  refine rw_lstW ?_
  rw [rw_nil]
  refine ⟨by decide, fun L1 x1 c1 => ?_⟩
  rw [sw_seq, sw_for, rw_arg, rw_cons, rw_var rfl, rw_nil]
  refine rw_rng1 (by omega) ?_
  rw [Int.toNat_natCast]
  have hdl : ds.length = 5 * rows.length := by rw [hdr.1]; simp; omega
  refine forD_w (xs := (List.range rows.length).map fun k => D.int (k : Nat))
    (fun k env L' => ∃ s6 s7 s8 s9 s10 s11 s12, env = [some (.ref r), some (.int top), some (.tup (lv.map D.int)), some (.ref m), some (.int (rows.length : Nat)), some (.ref L.length), s6, s7, s8, s9, s10, s11, s12] ∧ Ex' L L' ∧ ∃ b : Bt, L'[L.length]? = some (.lst true (b.map mvD)) ∧ b.length ≤ k ∧ b.Pairwise (fun a b => a.1 < b.1) ∧ ∀ l ∈ b, l.1 < k ∧ GoodMv rf top lv l)
    (fun i env L' _ _ => rng_at) (fun k env L' e hd2 hI => ?_) (fun env L' hI => ?_) turnsN 0 _ _ (by simp [turnsN]; omega) (Nat.zero_le _) ⟨none, none, none, none, none, none, none, rfl, x1, [], c1, Nat.le_refl _, List.Pairwise.nil, fun l hl => by simp at hl⟩
  · obtain ⟨s6, s7, s8, s9, s10, s11, s12, rfl, x, b, cb, hbl, hpw, hall⟩ := hI
    have hk : k < rows.length := by
      have := (List.getElem?_eq_some_iff.mp hd2).1
      simpa using this
    have ed : e = .int (k : Nat) := by
      rw [List.getElem?_map, List.getElem?_range hk] at hd2
      cases hd2
      rfl
    subst ed
    refine ⟨_, rfl, ?_⟩
    have ekr : rows[k]? = some rows[k] := List.getElem?_eq_getElem hk
    obtain ⟨r1, r2, r3, r4⟩ := hrf.at' k _ ekr
    generalize rows[k] = row at ekr r1 r2
    have hkl : k < lv.length := by omega
    rw [sw_seq, sw_asgN, rw_fn, rw_cons, rw_op, rw_var rfl, rw_var rfl]
    refine rw_ixL (x.lst hr) ekr rfl ?_
    rw [rw_nil]
    refine if_len rfl ?_
    refine (w_houses r2 r4).mono fun v L2 hv => ?_
    obtain ⟨rfl, x2⟩ := hv
    rw [sw_seq, sw_asgN, rw_op]
    refine rw_lstW ?_
    rw [rw_cons, rw_k, rw_nil]
    refine ⟨by show (1 : Nat) ≤ 100000; decide, fun L3 x3 c3 => ?_⟩
    rw [rw_var rfl]
    refine rw_repW c3 (k := rows.length) rfl (by omega) (by simp; omega) fun L4 x4 c4 => ?_
    have e4 : (List.replicate rows.length [D.int 0]).flatten = (List.replicate rows.length (0 : Int)).map D.int := by simp
    rw [e4] at c4
    have x24 := x3.trans x4
    have y4 := (x.trans x2).trans x24
    have cb4 := x24 _ _ (x2 _ _ cb)
    generalize hhs : (rfAt rf k).1 = hs' at r2 r3 r4
    have hlt : L.length < L3.length := by
      have := (List.getElem?_eq_some_iff.mp (x3 _ _ (x2 _ _ cb))).1
      exact this
    rw [sw_seq, sw_for, rw_arg, rw_cons, rw_call, rw_cons, rw_var rfl, rw_nil, rw_lenT, rw_nil, List.length_map]
    refine rw_rng1 (by omega) ?_
    rw [Int.toNat_natCast]
    refine forD_w (xs := (List.range hs'.length).map fun k => D.int (k : Nat))
      (fun q env L5 => ∃ t9 t10, env = [some (.ref r), some (.int top), some (.tup (lv.map D.int)), some (.ref m), some (.int (rows.length : Nat)), some (.ref L.length), some (.int (k : Nat)), some (.tup (hs'.map D.int)), some (.ref L3.length), t9, t10, s11, s12] ∧ Ex' L3 L5 ∧ ∃ se : List Int, L5[L3.length]? = some (.lst true (se.map D.int)) ∧ se.length = rows.length ∧ Dig se ∧ ∀ z, z < q → z < hs'.length → markI top (lv.getD (hs'.getD z 0).toNat 0) = 2 ∨ markI top (lv.getD (hs'.getD z 0).toNat 0) = se.getD (hs'.getD z 0).toNat 0)
      (fun q env L6 _ _ => rng_at) (fun q env L5 e hd4 hI => ?_) (fun env L5 hI => ?_) turnsN 0 _ _ (by simp [turnsN]; omega) (Nat.zero_le _) ⟨s9, s10, rfl, x4, List.replicate rows.length 0, c4, by simp, fun d hd => .inl (List.mem_replicate.mp hd).2, fun z hz => absurd hz (Nat.not_lt_zero _)⟩
    · obtain ⟨t9, t10, rfl, y, se, ce, sel, seD, hse⟩ := hI
      have hq : q < hs'.length := by
        have := (List.getElem?_eq_some_iff.mp hd4).1
        simpa using this
      have ed : e = .int (q : Nat) := by
        rw [List.getElem?_map, List.getElem?_range hq] at hd4
        cases hd4
        rfl
      subst ed
      refine ⟨_, rfl, ?_⟩
      obtain ⟨g1, g2⟩ := r3.2 _ (List.getElem_mem hq)
      have eh : hs'.getD q 0 = hs'[q] := by simp [hq]
      have a1 : (hs'.map D.int)[q]? = some (.int hs'[q]) := map_at (List.getElem?_eq_getElem hq)
      have hin : hs'[q].toNat < se.length := by omega
      have hil : hs'[q].toNat < lv.length := by omega
      have key : ∀ v : Int, (markI top (lv.getD hs'[q].toNat 0) = 2 ∨ markI top (lv.getD hs'[q].toNat 0) = v) → ∀ z, z < q + 1 → z < hs'.length → markI top (lv.getD (hs'.getD z 0).toNat 0) = 2 ∨ markI top (lv.getD (hs'.getD z 0).toNat 0) = (se.set hs'[q].toNat v).getD (hs'.getD z 0).toNat 0 := fun v hv z hz1 hz2 => by
        by_cases zq : z = q
        · subst zq
          rw [eh]
          have e : (se.set hs'[z].toNat v).getD hs'[z].toNat 0 = v := by simp [List.getD_eq_getElem?_getD, hin]
          rw [e]
          exact hv
        · have hzq : z < q := by omega
          have ez : hs'.getD z 0 = hs'[z] := by simp [hz2]
          have hlt2 := List.pairwise_iff_getElem.mp r3.1 z q hz2 hq hzq
          have g3 := (r3.2 _ (List.getElem_mem hz2)).1
          have e : (se.set hs'[q].toNat v).getD (hs'.getD z 0).toNat 0 = se.getD (hs'.getD z 0).toNat 0 := by
            rw [ez]
            simp only [List.getD_eq_getElem?_getD]
            rw [List.getElem?_set_ne (by omega)]
          rw [e]
          exact hse z hzq hz2
      have dig2 : ∀ v : Int, v = 0 ∨ v = 1 → Dig (se.set hs'[q].toNat v) := fun v hv z hz2 => by
        rcases List.mem_or_eq_of_mem_set hz2 with p | p
        · exact seD z p
        · rw [p]; exact hv
      generalize hs'[q] = h at a1 g1 g2 hin hil key dig2
      have elv : (lv.map D.int)[h.toNat]? = some (.int (lv.getD h.toNat 0)) := by rw [map_at (List.getElem?_eq_getElem hil)]; simp [hil]
      rw [sw_seq, sw_asgN, rw_fn, rw_cons, rw_var rfl, rw_cons, rw_op, rw_var rfl, rw_op, rw_var rfl, rw_var rfl]
      refine rw_ixT a1 rfl ?_
      refine rw_ixT elv (by omega) ?_
      rw [rw_nil]
      refine if_len rfl ?_
      refine w_law_mark.mono fun v L6 hv => ?_
      obtain ⟨rfl, x6⟩ := hv
      have ce6 := x6 _ _ ce
      have hlt6 : L3.length < L6.length := (List.getElem?_eq_some_iff.mp ce6).1
      have fin : ∀ v : Int, (v = 0 ∨ v = 1) → (markI top (lv.getD h.toNat 0) = 2 ∨ markI top (lv.getD h.toNat 0) = v) → ∃ t9 t10, ([some (.ref r), some (.int top), some (.tup (lv.map D.int)), some (.ref m), some (.int (rows.length : Nat)), some (.ref L.length), some (.int (k : Nat)), some (.tup (hs'.map D.int)), some (.ref L3.length), some (.int (q : Nat)), some (.int (markI top (lv.getD h.toNat 0))), s11, s12] : Sl) = [some (.ref r), some (.int top), some (.tup (lv.map D.int)), some (.ref m), some (.int (rows.length : Nat)), some (.ref L.length), some (.int (k : Nat)), some (.tup (hs'.map D.int)), some (.ref L3.length), t9, t10, s11, s12] ∧ Ex' L3 (L6.set L3.length (.lst true ((se.map D.int).set h.toNat (.int v)))) ∧ ∃ se2 : List Int, (L6.set L3.length (.lst true ((se.map D.int).set h.toNat (.int v))))[L3.length]? = some (.lst true (se2.map D.int)) ∧ se2.length = rows.length ∧ Dig se2 ∧ ∀ z, z < q + 1 → z < hs'.length → markI top (lv.getD (hs'.getD z 0).toNat 0) = 2 ∨ markI top (lv.getD (hs'.getD z 0).toNat 0) = se2.getD (hs'.getD z 0).toNat 0 := fun v v1 v2 => by
        refine ⟨_, _, rfl, (y.trans x6).set (Nat.le_refl _), se.set h.toNat v, ?_, by rw [List.length_set]; exact sel, dig2 v v1, key v v2⟩
        rw [List.getElem?_set_self hlt6, List.map_set]
      refine sw_set ?_
      rw [rw_eIf, rw_val, rw_op, rw_var rfl, rw_k, rw_eqI]
      show if decide _ = true then _ else _
      by_cases mk : markI top (lv.getD h.toNat 0) = 2
      · rw [if_pos (decide_eq_true mk), rw_op, rw_var rfl, rw_op, rw_op, rw_var rfl, rw_op, rw_k, rw_var rfl, rw_mulE (cmulx_small (by decide) (by decide) (by omega) (by omega)), rw_addI, rw_var rfl, rw_addI]
        have hj : rows.length + 4 * k + q < ds.length := by omega
        have e5 := hdr.2 (rows.length + 4 * k + q) _ 2 (List.getElem?_eq_getElem hj) (by rw [List.getElem?_append_right (by simp; omega), List.getElem?_replicate, if_pos (by simp; omega)])
        refine rw_ixL ((((x.trans x2).trans x3).trans (y.trans x6)).lst hd) (k := rows.length + 4 * k + q) (map_at (List.getElem?_eq_getElem hj)) (by omega) ?_
        rw [rw_var rfl, rw_op, rw_var rfl, rw_var rfl]
        refine rw_ixT a1 rfl ?_
        exact ⟨L3.length, h.toNat, _, rfl, by rw [Int.toNat_of_nonneg g1], ce6, by rw [List.length_map]; exact hin, fin _ (by omega) (.inl mk)⟩
      · rw [if_neg (by rw [decide_eq_false mk]; decide), rw_var rfl, rw_var rfl, rw_op, rw_var rfl, rw_var rfl]
        refine rw_ixT a1 rfl ?_
        exact ⟨L3.length, h.toNat, _, rfl, by rw [Int.toNat_of_nonneg g1], ce6, by rw [List.length_map]; exact hin, fin _ (mark_dig mk) (.inr rfl)⟩
    · obtain ⟨t9, t10, rfl, y, se, ce, sel, seD, hse⟩ := hI
      rw [List.length_map, List.length_range] at hse
      have y5 := ((x.trans x2).trans x3).trans y
      have cb5 := y _ _ (x3 _ _ (x2 _ _ cb))
      rw [sw_seq, sw_asgN, rw_op, rw_op, rw_k, rw_fn, rw_cons, rw_op, rw_var rfl, rw_var rfl]
      refine rw_ixL (y5.lst hr) ekr rfl ?_
      rw [rw_cons, rw_var rfl, rw_nil]
      refine if_len rfl ?_
      have r2' : RowF row hs' (rfAt rf k).2 := r2
      refine (w_value r1 r2' (lst_of ce) sel r4 r3 seD).mono fun v L7 hv => ?_
      obtain ⟨rfl, x7⟩ := hv
      have hfd := r1.dig r2' (seen se hs')
      rw [rw_mulE (cmulx_small (by decide) (by decide) (by omega) (by omega)), rw_k, rw_subI]
      generalize hstep : 2 * (rfAt rf k).2 (seen se hs') - 1 = step
      have hk5 : k < ds.length := by omega
      have y7 := y5.trans x7
      have cb7 := x7 _ _ cb5
      have no : ∃ (u6 u7 u8 u9 u10 u11 u12 : Option D), ([some (.ref r), some (.int top), some (.tup (lv.map D.int)), some (.ref m), some (.int (rows.length : Nat)), some (.ref L.length), some (.int (k : Nat)), some (.tup (hs'.map D.int)), some (.ref L3.length), t9, t10, some (.int step), s12] : Sl) = [some (.ref r), some (.int top), some (.tup (lv.map D.int)), some (.ref m), some (.int (rows.length : Nat)), some (.ref L.length), u6, u7, u8, u9, u10, u11, u12] ∧ Ex' L L7 ∧ ∃ b : Bt, L7[L.length]? = some (.lst true (b.map mvD)) ∧ b.length ≤ k + 1 ∧ b.Pairwise (fun a b => a.1 < b.1) ∧ ∀ l ∈ b, l.1 < k + 1 ∧ GoodMv rf top lv l :=
        ⟨_, _, _, _, _, _, _, rfl, y7, b, cb7, by omega, hpw, fun l hl => ⟨by have := (hall l hl).1; omega, (hall l hl).2⟩⟩
      rw [sw_if, rw_bAnd, rw_val, rw_op, rw_op, rw_var rfl, rw_var rfl]
      refine rw_ixL (y7.lst hd) (k := k) (map_at (List.getElem?_eq_getElem hk5)) rfl ?_
      rw [rw_k, rw_gtI]
      show if decide _ = true then _ else _
      have elv : (lv.map D.int)[k]? = some (.int (lv.getD k 0)) := by rw [map_at (List.getElem?_eq_getElem hkl)]; simp [hkl]
      refine if_sp (fun _ => ?_) (fun _ => ?_)
      · rw [rw_val, rw_chain, rw_k, rw_op, rw_op, rw_var rfl, rw_var rfl]
        refine rw_ixT elv rfl ?_
        rw [rw_var rfl, rw_addI, rw_leI]
        show if decide _ = true then _ else _
        refine if_sp (fun lo => ?_) (fun _ => ?_)
        · rw [rw_var rfl, rw_leI]
          show if decide _ = true then _ else _
          refine if_sp (fun hi => ?_) (fun _ => ?_)
          · rw [sw_drop, rw_bm, rw_var rfl, if_pos (isL_of cb7), rw_cons, rw_tup, rw_cons, rw_var rfl, rw_cons, rw_var rfl, rw_cons]
            refine w_mapT (ns := hs') (g := fun h => se.getD h.toNat 0) (by show 12 < 13; decide) (by omega) ?_
            rw [rw_src, rw_var rfl]
            refine rw_srcT ⟨fun L2 _ i _ => src_atT, fun z hz L8 x8 => ?_, fun L8 x8 => ?_⟩
            · obtain ⟨z1, z2⟩ := r3.2 z hz
              have hzl : z.toNat < se.length := by omega
              show Rw (eOp ixD _ _ [some (.ref r), some (.int top), some (.tup (lv.map D.int)), some (.ref m), some (.int (rows.length : Nat)), some (.ref L.length), some (.int (k : Nat)), some (.tup (hs'.map D.int)), some (.ref L3.length), t9, t10, some (.int step), some (.int z)] L8) _
              rw [rw_op, rw_var rfl, rw_var rfl]
              refine rw_ixL (lst_of (x8 _ _ (x7 _ _ ce))) (k := z.toNat) (d := .int (se.getD z.toNat 0)) (by rw [map_at (List.getElem?_eq_getElem hzl)]; simp [hzl]) (by omega) ⟨rfl, Ex'.refl⟩
            · rw [rw_nil]
              refine if_le (by show (3 : Nat) ≤ 100000; decide) ?_
              rw [rw_nil]
              have cb8 := x8 _ _ cb7
              refine rw_app cb8 (by rw [List.length_map]; omega) ?_
              refine ⟨_, _, _, _, _, _, _, rfl, (y7.trans x8).set (Nat.le_refl _), b ++ [(k, step, seen se hs')], ?_, by rw [List.length_append, List.length_singleton]; omega, ?_, fun l hl => ?_⟩
              · rw [List.getElem?_set_self (List.getElem?_eq_some_iff.mp cb8).1, List.map_append]
                rfl
              · refine List.pairwise_append.mpr ⟨hpw, List.pairwise_singleton _ _, fun a ha b hb => ?_⟩
                rw [List.mem_singleton.mp hb]
                exact (hall a ha).1
              · rcases List.mem_append.mp hl with q | q
                · exact ⟨by have := (hall l q).1; omega, (hall l q).2⟩
                · rw [List.mem_singleton.mp q]
                  refine ⟨Nat.lt_succ_self _, ⟨by rw [hrf.len]; exact hk, ?_, ?_, ?_, hstep.symm, of_decide_eq_true lo, of_decide_eq_true hi⟩⟩
                  · show (seen se hs').length = (rfAt rf k).1.length
                    rw [hhs]
                    unfold seen
                    rw [List.length_map]
                  · intro d hd
                    show d = 0 ∨ d = 1
                    obtain ⟨z, hz, rfl⟩ := List.mem_map.mp hd
                    obtain ⟨z1, z2⟩ := r3.2 z hz
                    have hzl : z.toNat < se.length := by omega
                    have e : se.getD z.toNat 0 = se[z.toNat] := by simp [hzl]
                    rw [e]
                    exact seD _ (List.getElem_mem hzl)
                  · intro i h d e1 e2
                    have e1' : hs'[i]? = some h := by rw [← hhs]; exact e1
                    have e2' : (seen se hs')[i]? = some d := e2
                    unfold seen at e2'
                    rw [List.getElem?_map, e1'] at e2'
                    cases e2'
                    have hi := (List.getElem?_eq_some_iff.mp e1').1
                    have q := hse i hi hi
                    have ez : hs'.getD i 0 = h := by rw [List.getD_eq_getElem?_getD, e1']; rfl
                    rw [ez] at q
                    exact q
          · rw [sw_nx]
            exact no
        · show (if false = true then _ else _)
          rw [if_neg (by decide), sw_nx]
          exact no
      · show (if false = true then _ else _)
        rw [if_neg (by decide), sw_nx]
        exact no
  · obtain ⟨s6, s7, s8, s9, s10, s11, s12, rfl, x, b, cb, hbl, hpw, hall⟩ := hI
    rw [List.length_map, List.length_range] at hbl
    rw [sw_ret, rw_var rfl]
    exact ⟨x, b, rfl, cb, ⟨hpw, fun l hl => (hall l hl).2, by omega⟩, by omega⟩
end K26
set_option Elab.async false
set_option linter.all false
set_option maxRecDepth 100000
set_option maxHeartbeats 2000000
namespace K26
open PySem PySem.Spec PyProof.Rows L2 GxR DW GxA DI
variable {K : PySem.W.Frag}
def BtR (L : LH) (d : D) (b : Bt) : Prop := ∃ n, d = .ref n ∧ L[n]? = some (.lst true (b.map mvD))
theorem BtR.up {L L2 : LH} {d : D} {b : Bt} (h : BtR L d b) (x : Ex' L L2) : BtR L2 d b := by
  obtain ⟨n, e, c⟩ := h
  exact ⟨n, e, x _ _ c⟩
theorem isMv_D {L : LH} {m : Mv} : IsMv L (mvD m) m := ⟨_, .tup _, .tup _⟩
theorem isMs_l {L : LH} {d : D} {b : Bt} (h : Is L d (b.map mvD)) : IsMs L d b := ⟨_, h, by rw [List.length_map], fun i d m e1 e2 => by
  rw [List.getElem?_map, e2] at e1
  cases e1
  exact isMv_D⟩
theorem BtR.isMs {L : LH} {d : D} {b : Bt} (h : BtR L d b) : IsMs L d b := by
  obtain ⟨n, rfl, c⟩ := h
  exact isMs_l (.lst (lst_of c))
theorem fold_getD {lv : List Int} {k : Nat} : ∀ (b : Bt) (a : List Int), (∀ m ∈ b, m.1 ≠ k) → (b.foldl (mvP lv) a).getD k 0 = a.getD k 0
  | [], a, _ => rfl
  | m :: b, a, h => by
    rw [List.foldl_cons, fold_getD b _ fun n hn => h n (List.mem_cons_of_mem _ hn)]
    unfold mvP
    simp only [List.getD_eq_getElem?_getD]
    rw [List.getElem?_set_ne (h m List.mem_cons_self)]
theorem lvAt_app {lv : List Int} {run : List Bt} {b : Bt} {j : Nat} (h : j ≤ run.length) : lvAt lv (run ++ [b]) j = lvAt lv run j := by
  unfold lvAt
  rw [List.take_append_of_le_length h]
theorem lvAt_last {lv : List Int} {run : List Bt} {b : Bt} : lvAt lv (run ++ [b]) (run.length + 1) = beatL (lvAt lv run run.length) b := by
  have e : (run ++ [b])[run.length]? = some b := by simp
  rw [lvAt_succ e, lvAt_app (Nat.le_refl _)]
theorem lvsD_app {lv : List Int} {run : List Bt} {b : Bt} : ∀ {n : Nat}, n ≤ run.length + 1 → lvsD lv (run ++ [b]) n = lvsD lv run n
  | 0, _ => rfl
  | n + 1, h => by
    rw [lvsD_succ, lvsD_succ, lvsD_app (by omega), lvAt_app (by omega)]
theorem lvsD_at {lv : List Int} {run : List Bt} {n i : Nat} (h : i < n) : (lvsD lv run n)[i]? = some (.tup ((lvAt lv run i).map D.int)) := by
  unfold lvsD
  rw [List.getElem?_map, List.getElem?_range h]
  rfl
theorem GoodRun.snoc {rf : List RFn} {top : Int} {lv : List Int} {run : List Bt} {b : Bt} (h : GoodRun rf top lv run) (hb : GoodBt rf top (lvAt lv run run.length) b) : GoodRun rf top lv (run ++ [b]) := ⟨fun i c e => by
  by_cases q : i < run.length
  · rw [List.getElem?_append_left q] at e
    rw [lvAt_app (by omega)]
    exact h.all i c e
  · have hi : i = run.length := by
      have := (List.getElem?_eq_some_iff.mp e).1
      rw [List.length_append, List.length_singleton] at this
      omega
    subst hi
    rw [List.getElem?_append_right (Nat.le_refl _), Nat.sub_self] at e
    cases e
    rw [lvAt_app (Nat.le_refl _)]
    exact hb⟩
structure RunAt (L : LH) (rf : List RFn) (top : Int) (lv : List Int) (mr mw : Nat) (run : List Bt) : Prop where
  good : GoodRun rf top lv run
  run_ : ∃ es, L[mr]? = some (.lst true es) ∧ es.length = run.length ∧ ∀ (i : Nat) (d : D) (b : Bt), es[i]? = some d → run[i]? = some b → BtR L d b
  walk : L[mw]? = some (.lst true (lvsD lv run (run.length + 1)))
  len : ∀ b ∈ run, b.length ≤ 12
theorem w_law_run {L : LH} {bb : Bool} {ns : List Int} {r s sc cnt : Nat} {rows : List D} {rf : List RFn} {top : Int} {st : List Int} (hsc : lstAt L sc = some (ns.map D.int)) (hr : lstAt L r = some rows) (hrf : RowsF rows rf) (hrl : rows.length ≤ 12) (ht : TopOk top) (hs : lstAt L s = some (st.map D.int)) (hsl : st.length = rows.length) (hD : Dig st) (hc : cnt ≤ 100) :
    Rw (F__law_run K [.ref r, .int top, .ref s, .ref sc, .int (cnt : Nat)] L) fun v L' => Ex' L L' ∧ ∃ mr mw run, v = .tup [.ref mr, .ref mw] ∧ RunAt L' rf top (st.map (top * ·)) mr mw run ∧ run.length = cnt := by
  unfold F__law_run m__law_run
  rw [rw_fnD]
  show Sw (sSeq _ _ [some (.ref r), some (.int top), some (.ref s), some (.ref sc), some (.int (cnt : Nat)), none, none, none, none, none, none, none, none, none, none, none] L) _ _
  rw [sw_seq, sw_asgN, rw_call, rw_cons, rw_var rfl, rw_nil]
  refine rw_lenL hr ?_
  rw [sw_seq, sw_asgN]
  refine rw_lstW ?_
  rw [rw_cons]
  refine w_mapT (ns := st) (g := (top * ·)) (by show 7 < 16; decide) (by omega) ?_
  rw [rw_src, rw_var rfl]
  refine rw_srcL hs ⟨fun L2 x i _ => src_atL (x.lst hs), fun z hz L2 x2 => ?_, fun L1 x1 => ?_⟩
  · have hz2 := hD z hz
    show Rw (eOp mulD _ _ [some (.ref r), some (.int top), some (.ref s), some (.ref sc), some (.int (cnt : Nat)), some (.int (rows.length : Nat)), none, some (.int z), none, none, none, none, none, none, none, none] L2) _
    rw [rw_op, rw_var rfl, rw_var rfl, rw_mulE (cmulx_top ht (by omega) (by omega))]
    exact ⟨rfl, Ex'.refl⟩
  rw [rw_nil]
  have hl0 : (st.map (top * ·)).length = rows.length := by rw [List.length_map, hsl]
  generalize st.map (top * ·) = lv at hl0 ⊢
  refine ⟨by show (1 : Nat) ≤ 100000; decide, fun L2 x2 c2 => ?_⟩
  rw [sw_seq, sw_asgN]
  refine rw_lstW ?_
  rw [rw_nil]
  refine ⟨by decide, fun L3 x3 c3 => ?_⟩
  have y3 := (x1.trans x2).trans x3
  have c23 := x3 _ _ c2
  have hlt2 : L1.length < L2.length := (List.getElem?_eq_some_iff.mp c2).1
  have hle1 : L.length ≤ L1.length := x1.le
  rw [sw_seq, sw_for, rw_arg, rw_cons, rw_var rfl, rw_nil]
  refine rw_rng1 (by omega) ?_
  rw [Int.toNat_natCast]
  refine forD_w (xs := (List.range cnt).map fun k => D.int (k : Nat))
    (fun i env L' => ∃ s9 s10 s11 s12 s13 s14 s15, env = [some (.ref r), some (.int top), some (.ref s), some (.ref sc), some (.int (cnt : Nat)), some (.int (rows.length : Nat)), some (.ref L1.length), none, some (.ref L2.length), s9, s10, s11, s12, s13, s14, s15] ∧ Ex' L L' ∧ ∃ run, RunAt L' rf top lv L2.length L1.length run ∧ run.length = i)
    (fun i env L' _ _ => rng_at) (fun i env L' e hd2 hI => ?_) (fun env L' hI => ?_) turnsN 0 _ _ (by simp [turnsN]; omega) (Nat.zero_le _) ⟨none, none, none, none, none, none, none, rfl, y3, [], ⟨⟨fun i b e => by simp at e⟩, ⟨[], c3, rfl, fun i d b e => by simp at e⟩, c23, fun b hb => by simp at hb⟩, rfl⟩
  · obtain ⟨s9, s10, s11, s12, s13, s14, s15, rfl, x, run, ⟨hg, ⟨es, ce, esl, hes⟩, cw, hln⟩, hlen⟩ := hI
    have hi : i < cnt := by
      have := (List.getElem?_eq_some_iff.mp hd2).1
      simpa using this
    have ed : e = .int (i : Nat) := by
      rw [List.getElem?_map, List.getElem?_range hi] at hd2
      cases hd2
      rfl
    subst ed
    subst hlen
    refine ⟨_, rfl, ?_⟩
    have hll := lvAt_len (lv := lv) (run := run) (i := run.length)
    rw [sw_seq, sw_asgN, rw_fn, rw_cons, rw_op, rw_fn, rw_cons, rw_var rfl, rw_cons, rw_op, rw_k, rw_var rfl, rw_addI, rw_nil]
    refine if_len rfl ?_
    refine w_cell (b := bb) (x.lst hsc) (k := 16 + run.length) (by omega) ?_
    rw [rw_var rfl, rw_addI, rw_cons, rw_op, rw_op]
    refine rw_lstW ?_
    rw [rw_cons, rw_k, rw_nil]
    refine ⟨by show (1 : Nat) ≤ 100000; decide, fun L5 x5 c5 => ?_⟩
    rw [rw_var rfl]
    refine rw_repW c5 (k := rows.length) rfl (by omega) (by simp; omega) fun L6 x6 c6 => ?_
    rw [rw_op]
    refine rw_lstW ?_
    rw [rw_cons, rw_k, rw_nil]
    refine ⟨by show (1 : Nat) ≤ 100000; decide, fun L7 x7 c7 => ?_⟩
    rw [rw_op, rw_k, rw_var rfl, rw_mulE (cmulx_small (by decide) (by decide) (by omega) (by omega))]
    refine rw_repW c7 (k := 4 * rows.length) (by omega) (by omega) (by simp; omega) fun L8 x8 c8 => ?_
    refine rw_addW (x8 _ _ (x7 _ _ c6)) c8 (by simp; omega) fun L9 x9 c9 => ?_
    have e9 : (List.replicate rows.length [D.int 4]).flatten ++ (List.replicate (4 * rows.length) [D.int 2]).flatten = (List.replicate rows.length (4 : Int) ++ List.replicate (4 * rows.length) 2).map D.int := by simp
    rw [e9] at c9
    rw [rw_nil]
    refine if_len rfl ?_
    refine (w_draws (lst_of c9) (fun z hz => ?_) (by simp; omega)).mono fun v L10 hv => ?_
    · rcases List.mem_append.mp hz with q | q <;> rw [(List.mem_replicate.mp q).2] <;> decide
    obtain ⟨x10, m, ds, rfl, hm, c10, hdr⟩ := hv
    have x510 := ((((x5.trans x6).trans x7).trans x8).trans x9).trans x10
    have cw10 := x510 _ _ cw
    have elast : (lvsD lv run (run.length + 1))[(lvsD lv run (run.length + 1)).length - 1]? = some (.tup ((lvAt lv run run.length).map D.int)) := by
      rw [lvsD_len]
      exact lvsD_at (by omega)
    rw [sw_seq, sw_asgN, rw_fn, rw_cons, rw_var rfl, rw_cons, rw_var rfl, rw_cons, rw_op, rw_var rfl, rw_un, rw_k, show ∀ P : D → LH → Prop, Rw (negD (.int 1) L10) P = P (.int (-1)) L10 from fun _ => rfl]
    refine rw_ixM (lst_of cw10) elast ?_
    rw [rw_cons, rw_var rfl, rw_nil]
    refine if_len rfl ?_
    refine (w_law_beat ((x.trans x510).lst hr) hrf hrl ht (by omega) (lst_of c10) hdr).mono fun v L11 hv => ?_
    obtain ⟨x11, b, rfl, cb, hgb, hbl⟩ := hv
    have cw11 := x11 _ _ cw10
    rw [sw_seq, sw_asgN, rw_call, rw_cons, rw_op, rw_var rfl, rw_un, rw_k, show ∀ P : D → LH → Prop, Rw (negD (.int 1) L11) P = P (.int (-1)) L11 from fun _ => rfl]
    refine rw_ixM (lst_of cw11) elast ?_
    rw [rw_nil]
    refine rw_listD (.tup _) fun L12 x12 c12 => ?_
    have cb12 := x12 _ _ cb
    rw [sw_seq, sw_for, rw_src, rw_var rfl]
    refine rw_srcL (lst_of cb12) ?_
    have elb := lvAt_last (lv := lv) (run := run) (b := b)
    generalize hcur : lvAt lv run run.length = cur at hll hgb elast c12 elb
    have hlt11 : L10.length < L11.length := (List.getElem?_eq_some_iff.mp cb).1
    refine forD_w (xs := b.map mvD) (fun j env L13 => ∃ s13 s14 s15, env = [some (.ref r), some (.int top), some (.ref s), some (.ref sc), some (.int (cnt : Nat)), some (.int (rows.length : Nat)), some (.ref L1.length), none, some (.ref L2.length), some (.int (run.length : Nat)), some (.ref m), some (.ref L10.length), some (.ref L11.length), s13, s14, s15] ∧ Ex' L11 L13 ∧ L13[L11.length]? = some (.lst true (((b.take j).foldl (mvP cur) cur).map D.int)))
      (fun j env L13 _ hI => by obtain ⟨_, _, _, _, y, _⟩ := hI; exact src_atL (lst_of (y _ _ cb))) (fun j env L13 e hd3 hI => ?_) (fun env L13 hI => ?_) turnsN 0 _ _ (by simp [turnsN]; omega) (Nat.zero_le _) ⟨s13, s14, s15, rfl, x12, c12⟩
    · obtain ⟨t13, t14, t15, rfl, y, cn⟩ := hI
      have hj : j < b.length := by have := (List.getElem?_eq_some_iff.mp hd3).1; rw [List.length_map] at this; exact this
      have el : b[j]? = some b[j] := List.getElem?_eq_getElem hj
      rw [List.getElem?_map, el] at hd3
      cases hd3
      have hgj := hgb.all _ (List.getElem_mem hj)
      have etk : (b.take (j + 1)).foldl (mvP cur) cur = mvP cur ((b.take j).foldl (mvP cur) cur) b[j] := by
        rw [List.take_succ, el, List.foldl_append]
        rfl
      have hnow := fold_len (lv := cur) (b.take j) cur
      have hget : ((b.take j).foldl (mvP cur) cur).getD b[j].1 0 = cur.getD b[j].1 0 := fold_getD _ _ fun n hn => by
        obtain ⟨q, hq, rfl⟩ := List.getElem_of_mem hn
        rw [List.length_take] at hq
        have := List.pairwise_iff_getElem.mp hgb.asc q j (by omega) hj (by omega)
        rw [List.getElem_take]
        omega
      rw [etk]
      generalize (b.take j).foldl (mvP cur) cur = now at cn hnow hget
      generalize b[j] = mv at hgj hget
      have hk : mv.1 < now.length := by have := hgj.house; have := hrf.len; omega
      refine ⟨_, gTp3 rfl, ?_⟩
      refine sw_set ?_
      rw [rw_op, rw_op, rw_var rfl, rw_var rfl]
      refine rw_ixL (lst_of cn) (k := mv.1) (d := .int (cur.getD mv.1 0)) (by rw [map_at (List.getElem?_eq_getElem hk), ← hget]; simp [hk]) rfl ?_
      rw [rw_var rfl, rw_addI, rw_var rfl, rw_var rfl]
      refine ⟨L11.length, mv.1, _, rfl, rfl, cn, by rw [List.length_map]; exact hk, ?_⟩
      refine ⟨_, _, _, rfl, y.set (Nat.le_refl _), ?_⟩
      rw [List.getElem?_set_self (List.getElem?_eq_some_iff.mp cn).1]
      unfold mvP
      rw [List.map_set]
    · obtain ⟨t13, t14, t15, rfl, y, cn⟩ := hI
      rw [List.length_map, List.take_length] at cn
      have ce13 := y _ _ (x11 _ _ (x510 _ _ ce))
      have cw13 := y _ _ cw11
      rw [sw_seq, sw_drop, rw_bm, rw_var rfl, if_pos (isL_of ce13), rw_cons, rw_var rfl, rw_nil]
      refine rw_app ce13 (by omega) ?_
      have x13 := ((x.trans x510).trans x11).trans y
      have cw14 : (L13.set L2.length (.lst true (es ++ [.ref L10.length])))[L1.length]? = some (.lst true (lvsD lv run (run.length + 1))) := by
        rw [List.getElem?_set_ne (by omega)]
        exact cw13
      have cn14 : (L13.set L2.length (.lst true (es ++ [.ref L10.length])))[L11.length]? = some (.lst true ((b.foldl (mvP cur) cur).map D.int)) := by
        have : L2.length < L11.length := by
          have h1 := (List.getElem?_eq_some_iff.mp (x11 _ _ (x510 _ _ ce))).1
          exact h1
        rw [List.getElem?_set_ne (by omega)]
        exact cn
      rw [sw_drop, rw_bm, rw_var rfl, if_pos (isL_of cw14), rw_cons, rw_call, rw_cons, rw_var rfl, rw_nil, rw_tupleL (lst_of cn14), rw_nil]
      refine rw_app cw14 (by rw [lvsD_len]; omega) ?_
      have hl13a : L2.length < L13.length := (List.getElem?_eq_some_iff.mp ce13).1
      have hl13b : L1.length < L13.length := (List.getElem?_eq_some_iff.mp cw13).1
      have hcb13 : L13[L10.length]? = some (.lst true (b.map mvD)) := y _ _ cb
      have hl10 : L2.length < L10.length := (List.getElem?_eq_some_iff.mp (x510 _ _ ce)).1
      refine ⟨_, _, _, _, _, _, _, rfl, (x13.set (by omega)).set (by omega), run ++ [b], ⟨hg.snoc (by rw [hcur]; exact hgb), ⟨es ++ [.ref L10.length], ?_, by rw [List.length_append, List.length_append, esl]; rfl, fun j d c e1 e2 => ?_⟩, ?_, fun c hc => ?_⟩, by rw [List.length_append, List.length_singleton]⟩
      · rw [List.getElem?_set_ne (by omega), List.getElem?_set_self hl13a]
      · by_cases q : j < es.length
        · rw [List.getElem?_append_left q] at e1
          rw [List.getElem?_append_left (by omega)] at e2
          obtain ⟨n, rfl, cn2⟩ := hes j d c e1 e2
          have cn3 := y _ _ (x11 _ _ (x510 _ _ cn2))
          have ne1 : n ≠ L2.length := fun z => by
            subst z
            rw [ce] at cn2
            injection cn2 with cn2
            injection cn2 with _ cn2
            have h1 := List.mem_of_getElem? e1
            rw [cn2] at h1
            obtain ⟨mm, _, hmm⟩ := List.mem_map.mp h1
            cases hmm
          have ne2 : n ≠ L1.length := fun z => by
            subst z
            rw [cw] at cn2
            injection cn2 with cn2
            injection cn2 with _ cn2
            have h1 : (c.map mvD)[0]? = some (.tup ((lvAt lv run 0).map D.int)) := by rw [← cn2]; exact lvsD_at (by omega)
            rw [List.getElem?_map] at h1
            obtain ⟨mm, _, hmm⟩ := Option.map_eq_some_iff.mp h1
            have h2 := D.tup.inj hmm
            have h3 : ([.int (mm.1 : Nat), .int mm.2.1, .tup (mm.2.2.map D.int)] : List D)[2]? = ((lvAt lv run 0).map D.int)[2]? := by rw [h2]
            rw [List.getElem?_map] at h3
            cases hz : (lvAt lv run 0)[2]? with
            | none => rw [hz] at h3; cases h3
            | some zz => rw [hz] at h3; cases h3
          refine ⟨n, rfl, ?_⟩
          rw [List.getElem?_set_ne (Ne.symm ne2), List.getElem?_set_ne (Ne.symm ne1)]
          exact cn3
        · have ej : j = es.length := by
            have := (List.getElem?_eq_some_iff.mp e1).1
            rw [List.length_append, List.length_singleton] at this
            omega
          subst ej
          rw [List.getElem?_append_right (Nat.le_refl _), Nat.sub_self] at e1
          rw [esl, List.getElem?_append_right (Nat.le_refl _), Nat.sub_self] at e2
          cases e1
          cases e2
          refine ⟨L10.length, rfl, ?_⟩
          rw [List.getElem?_set_ne (by omega), List.getElem?_set_ne (by omega)]
          exact hcb13
      · rw [List.getElem?_set_self (by rw [List.length_set]; exact hl13b), List.length_append, List.length_singleton, lvsD_succ (n := run.length + 1), lvsD_app (Nat.le_refl _), elb]
        rfl
      · rcases List.mem_append.mp hc with q | q
        · exact hln c q
        · rw [List.mem_singleton.mp q]
          exact hbl
  · obtain ⟨s9, s10, s11, s12, s13, s14, s15, rfl, x, run, hra, hlen⟩ := hI
    rw [List.length_map, List.length_range] at hlen
    rw [sw_ret, rw_tup, rw_cons, rw_var rfl, rw_cons, rw_var rfl, rw_nil]
    exact if_le (by show (2 : Nat) ≤ 100000; decide) ⟨x, _, _, run, rfl, hra, hlen⟩
end K26
set_option Elab.async false
set_option linter.all false
set_option maxRecDepth 100000
set_option maxHeartbeats 2000000
namespace K26
open PySem PySem.Spec PyProof.Rows L2 GxR DW GxA DI
variable {K : PySem.W.Frag}
theorem mvD_inj {m m' : Mv} (h : mvD m = mvD m') : m = m' := by
  obtain ⟨k, s, ds⟩ := m
  obtain ⟨k', s', ds'⟩ := m'
  unfold mvD at h
  injection h with h
  injection h with h1 h
  injection h with h2 h
  injection h with h3 _
  have e1 : (k : Int) = k' := D.int.inj h1
  have e2 : s = s' := D.int.inj h2
  have e3 : ds = ds' := D_int_inj (D.tup.inj h3)
  have e4 : k = k' := by omega
  rw [e2, e3, e4]
theorem mvs_inj : ∀ {b b' : Bt}, b.map mvD = b'.map mvD → b = b'
  | [], [], _ => rfl
  | [], _ :: _, h => by cases h
  | _ :: _, [], h => by cases h
  | m :: b, m' :: b', h => by
    rw [List.map_cons, List.map_cons] at h
    injection h with h1 h2
    rw [mvD_inj h1, mvs_inj h2]
def btD (b : Bt) : D := .tup (b.map mvD)
theorem btD_inj {b b' : Bt} (h : btD b = btD b') : b = b' := mvs_inj (D.tup.inj h)
def MvL (L : LH) (lo hi : Nat) (d e : D) : Prop := ∃ (m : Mv) (c k : Nat), d = mvD m ∧ e = .ref k ∧ lo ≤ c ∧ c < k ∧ k < hi ∧ L[k]? = some (.lst true [.int (m.1 : Nat), .int m.2.1, .ref c]) ∧ L[c]? = some (.lst true (m.2.2.map D.int))
theorem MvL.stay {L L2 : LH} {lo hi : Nat} {d e : D} (h : MvL L lo hi d e) (s : Stay lo hi L L2) : MvL L2 lo hi d e := by
  obtain ⟨m, c, k, e1, e2, h1, h2, h3, h4, h5⟩ := h
  exact ⟨m, c, k, e1, e2, h1, h2, h3, s k _ (by omega) h3 h4, s c _ h1 (by omega) h5⟩
def BmB (L : LH) (lo hi : Nat) (b : Bt) (e : D) : Prop := ∃ n ms bs, e = .ref n ∧ lo ≤ n ∧ n < hi ∧ L[n]? = some (.lst true ms) ∧ Sep (MvL L) (n + 1) hi (b.map mvD) ms bs
theorem Stay.sub {lo hi lo' hi' : Nat} {L L2 : LH} (s : Stay lo hi L L2) (h1 : lo ≤ lo') (h2 : hi' ≤ hi) : Stay lo' hi' L L2 := fun i c a b e => s i c (by omega) (by omega) e
theorem BmB.stay {L L2 : LH} {lo hi : Nat} {b : Bt} {e : D} (h : BmB L lo hi b e) (s : Stay lo hi L L2) : BmB L2 lo hi b e := by
  obtain ⟨n, ms, bs, e1, h1, h2, h3, h4⟩ := h
  refine ⟨n, ms, bs, e1, h1, h2, s n _ h1 h2 h3, h4.le, h4.lb, fun i d e c q1 q2 q3 => ?_, h4.ord⟩
  obtain ⟨g1, g2, g3, g4⟩ := h4.at' i d e c q1 q2 q3
  exact ⟨g1.stay (Stay.sub s (by omega) g4), g2, g3, g4⟩
def BmT (L : LH) (lo hi : Nat) (d e : D) : Prop := ∃ b, d = btD b ∧ BmB L lo hi b e
theorem w_run_lists {L : LH} {mr : Nat} {es : List D} {run : List Bt} (he : L[mr]? = some (.lst true es)) (hel : es.length = run.length) (hes : ∀ (i : Nat) (d : D) (b : Bt), es[i]? = some d → run[i]? = some b → BtR L d b) (hl : run.length ≤ 500) (hb : ∀ b ∈ run, b.length ≤ 12) :
    Rw (F__law_run_lists K [.ref mr] L) fun v L' => Ex' L L' ∧ ∃ m fs bs, v = .ref m ∧ L.length ≤ m ∧ L'[m]? = some (.lst true fs) ∧ Sep (BmT L') (m + 1) L'.length (run.map btD) fs bs := by
  unfold F__law_run_lists m__law_run_lists
  rw [rw_fnD]
  show Sw (sRet _ [some (.ref mr), none, none] L) _ _
  rw [sw_ret]
  refine rw_lcS ?_
  rw [rw_src, rw_var rfl]
  refine rw_srcL (lst_of he) ⟨es, fun L' lo hi d e => ∃ b, BtR L d b ∧ BmB L' lo hi b e, by omega, fun L2 x i _ => src_atL (x.lst (lst_of he)), fun d e lo hi L2 L3 s q => ?_, fun d hd L2 x2 hn => ?_, fun L2 fs bs x c a => ⟨x, L.length, fs, bs, rfl, Nat.le_refl _, c, by rw [a.le, hel, List.length_map], by rw [a.lb, hel, List.length_map], fun i d e b q1 q2 q3 => ?_, a.ord⟩⟩
  · obtain ⟨b, q1, q2⟩ := q
    exact ⟨b, q1, q2.stay s⟩
  · obtain ⟨j, hj, rfl⟩ := List.getElem_of_mem hd
    have hj2 : j < run.length := by omega
    obtain ⟨n, en, cn⟩ := hes j _ _ (List.getElem?_eq_getElem hj) (List.getElem?_eq_getElem hj2)
    have hbl := hb _ (List.getElem_mem hj2)
    have hbtr : BtR L es[j] run[j] := ⟨n, en, cn⟩
    generalize run[j] = b at cn hbl hbtr
    rw [en] at hbtr ⊢
    refine ⟨_, rfl, rfl, Ex'.refl, ?_⟩
    refine rw_lcS ?_
    rw [rw_src, rw_var rfl]
    refine rw_srcL (lst_of (x2 _ _ cn)) ⟨b.map mvD, MvL, by rw [List.length_map]; omega, fun L3 x i _ => src_atL ((x2.trans x).lst (lst_of cn)), fun d e lo hi L2 L3 s q => q.stay s, fun d hd L3 x3 hn3 => ?_, fun L3 ms bs x c a => ⟨x, b, hbtr, L2.length, ms, bs, rfl, Nat.le_refl _, (List.getElem?_eq_some_iff.mp c).1, c, a⟩⟩
    obtain ⟨m, hm, rfl⟩ := List.mem_map.mp hd
    refine ⟨_, rfl, rfl, Ex'.refl, ?_⟩
    refine rw_lstW ?_
    rw [rw_cons, rw_op, rw_var rfl, rw_k]
    refine rw_ixT (k := 0) (d := .int (m.1 : Nat)) rfl rfl ?_
    rw [rw_cons, rw_op, rw_var rfl, rw_k]
    refine rw_ixT (k := 1) (d := .int m.2.1) rfl rfl ?_
    rw [rw_cons, rw_call, rw_cons, rw_op, rw_var rfl, rw_k]
    refine rw_ixT (k := 2) (d := .tup (m.2.2.map D.int)) rfl rfl ?_
    rw [rw_nil]
    refine rw_listD (.tup _) fun L4 x4 c4 => ?_
    rw [rw_nil]
    refine ⟨by show (3 : Nat) ≤ 100000; decide, fun L5 x5 c5 => ⟨x4.trans x5, m, L3.length, L4.length, rfl, rfl, Nat.le_refl _, ?_, (List.getElem?_eq_some_iff.mp c5).1, c5, x5 _ _ c4⟩⟩
    exact (List.getElem?_eq_some_iff.mp c4).1
  · rw [List.getElem?_map] at q1
    cases er : run[i]? with
    | none => rw [er] at q1; cases q1
    | some c =>
      rw [er] at q1
      cases q1
      have hi : i < run.length := (List.getElem?_eq_some_iff.mp er).1
      have ee : es[i]? = some es[i] := List.getElem?_eq_getElem (by omega)
      obtain ⟨⟨b', g1, g2⟩, g3, g4, g5⟩ := a.at' i _ e b ee q2 q3
      obtain ⟨n, e1, c1⟩ := hes i _ _ ee er
      obtain ⟨n', e2, c2⟩ := g1
      rw [e1] at e2
      cases e2
      rw [c1] at c2
      injection c2 with c2
      injection c2 with _ c2
      have eb : c = b' := mvs_inj c2
      subst eb
      exact ⟨⟨c, rfl, g2⟩, g3, g4, g5⟩
theorem MvL.isMv {L : LH} {lo hi : Nat} {m : Mv} {e : D} (h : MvL L lo hi (mvD m) e) : IsMv L e m := by
  obtain ⟨m', c, k, e1, rfl, _, _, _, h4, h5⟩ := h
  have := mvD_inj e1
  subst this
  exact ⟨.ref c, .lst (lst_of h4), .lst (lst_of h5)⟩
theorem BmB.isMs {L : LH} {lo hi : Nat} {b : Bt} {e : D} (h : BmB L lo hi b e) : IsMs L e b := by
  obtain ⟨n, ms, bs, rfl, h1, h2, h3, h4⟩ := h
  refine ⟨ms, .lst (lst_of h3), by rw [h4.le, List.length_map], fun i d m q1 q2 => ?_⟩
  obtain ⟨y, c, e1, e2, g, _⟩ := h4.get (i := i) (d := mvD m) (by rw [List.getElem?_map, q2]; rfl)
  rw [q1] at e1
  cases e1
  exact g.isMv
theorem sep_isRn {L : LH} {m : Nat} {lo hi : Nat} {fs : List D} {bs : List (Nat × Nat)} {run : List Bt} (h : L[m]? = some (.lst true fs)) (s : Sep (BmT L) lo hi (run.map btD) fs bs) : IsRn L (.ref m) run := by
  refine ⟨fs, .lst (lst_of h), by rw [s.le, List.length_map], fun i d b q1 q2 => ?_⟩
  obtain ⟨y, c, e1, e2, ⟨b', g1, g2⟩, _⟩ := s.get (i := i) (d := btD b) (by rw [List.getElem?_map, q2]; rfl)
  rw [q1] at e1
  cases e1
  rw [btD_inj g1]
  exact g2.isMs
/-! ### the data -/
def pMv (m : Mv) : PyData := .list [.int (m.1 : Nat), .int m.2.1, .list (m.2.2.map PyData.int)]
def pBt (b : Bt) : PyData := .list (b.map pMv)
theorem pd_mv {L : LH} {lo hi n : Nat} {m : Mv} {e : D} (h : MvL L lo hi (mvD m) e) : pd L (n + 3) e = some (pMv m) := by
  obtain ⟨m', c, k, e1, rfl, _, _, _, h4, h5⟩ := h
  have := mvD_inj e1
  subst this
  show (match lstAt L k with | some xs => (mapO (pd L (n + 2)) xs).map PyData.list | none => none) = _
  rw [lst_of h4]
  simp only [mapO, pd_lstI (n := n) (lst_of h5)]
  rfl
theorem pd_bt {L : LH} {lo hi n : Nat} {b : Bt} {e : D} (h : BmB L lo hi b e) : pd L (n + 4) e = some (pBt b) := by
  obtain ⟨k, ms, bs, rfl, h1, h2, h3, h4⟩ := h
  show (match lstAt L k with | some xs => (mapO (pd L (n + 3)) xs).map PyData.list | none => none) = _
  rw [lst_of h3]
  have e : mapO (pd L (n + 3)) ms = some (b.map pMv) := mapO_of (by rw [List.length_map, h4.le, List.length_map]) fun i x y q1 q2 => by
    rw [List.getElem?_map] at q2
    cases el : b[i]? with
    | none => rw [el] at q2; cases q2
    | some m =>
      rw [el] at q2
      cases q2
      obtain ⟨z, c, e1, e2, g, _⟩ := h4.get (i := i) (d := mvD m) (by rw [List.getElem?_map, el]; rfl)
      rw [q1] at e1
      cases e1
      exact pd_mv g
  simp only [e]
  rfl
theorem pd_run {L : LH} {m lo hi n : Nat} {fs : List D} {bs : List (Nat × Nat)} {run : List Bt} (h : L[m]? = some (.lst true fs)) (s : Sep (BmT L) lo hi (run.map btD) fs bs) : pd L (n + 5) (.ref m) = some (.list (run.map pBt)) := by
  show (match lstAt L m with | some xs => (mapO (pd L (n + 4)) xs).map PyData.list | none => none) = _
  rw [lst_of h]
  have e : mapO (pd L (n + 4)) fs = some (run.map pBt) := mapO_of (by rw [List.length_map, s.le, List.length_map]) fun i x y q1 q2 => by
    rw [List.getElem?_map] at q2
    cases el : run[i]? with
    | none => rw [el] at q2; cases q2
    | some b =>
      rw [el] at q2
      cases q2
      obtain ⟨z, c, e1, e2, ⟨b', g1, g2⟩, _⟩ := s.get (i := i) (d := btD b) (by rw [List.getElem?_map, el]; rfl)
      rw [q1] at e1
      cases e1
      rw [btD_inj g1]
      exact pd_bt g2
  simp only [e]
  rfl
theorem ps_run {run : List Bt} : PS 4 (.list (run.map pBt)) := ps_list fun p hp => by
  obtain ⟨b, _, rfl⟩ := List.mem_map.mp hp
  refine ps_list fun p hp => ?_
  obtain ⟨l, _, rfl⟩ := List.mem_map.mp hp
  refine ps_list fun p hp => ?_
  rcases List.mem_cons.mp hp with q | q
  · rw [q]; exact ps_int
  · rcases List.mem_cons.mp q with q | q
    · rw [q]; exact ps_int
    · have e : p = .list (l.2.2.map PyData.int) := by simpa using q
      rw [e]
      exact ps_lstI
theorem sep_up {L L2 : LH} {lo hi : Nat} {fs : List D} {bs : List (Nat × Nat)} {run : List Bt} (s : Sep (BmT L) lo hi (run.map btD) fs bs) (x : Ex' L L2) : Sep (BmT L2) lo hi (run.map btD) fs bs :=
  ⟨s.le, s.lb, fun i d e b q1 q2 q3 => by
    obtain ⟨⟨b', g1, g2⟩, g3⟩ := s.at' i d e b q1 q2 q3
    exact ⟨⟨b', g1, g2.stay x.stay⟩, g3⟩, s.ord⟩
end K26
set_option Elab.async false
set_option linter.all false
set_option maxRecDepth 100000
set_option maxHeartbeats 4000000
namespace K26
open PySem PySem.Spec PyProof.Rows L2 GxR DW GxA DI
variable {K : PySem.W.Frag}
theorem LRow.imp {lo : Nat} {L L2 : LH} {row d : D} (h : LRow lo L row d) (x : ∀ (i : Nat) (xs : List D), lo ≤ i → lstAt L i = some xs → lstAt L2 i = some xs) : LRow lo L2 row d := by
  have nl : ∀ {d e : D}, NewL lo L d e → NewL lo L2 d e := fun {d e} q => by
    obtain ⟨xs, n, e1, e2, h1, h2⟩ := q
    exact ⟨xs, n, e1, e2, h1, x _ _ h1 h2⟩
  cases h with
  | rows l1 l2 l3 c1 c2 c3 => exact .rows l1 l2 l3 (x _ _ l1 c1) (x _ _ l2 c2) (x _ _ l3 c3)
  | terms l1 l2 l3 c1 c2 c3 a1 a2 => exact .terms l1 l2 l3 (x _ _ l1 c1) (x _ _ l2 c2) (x _ _ l3 c3) ⟨a1.1, fun i d e q1 q2 => nl (a1.2 i d e q1 q2)⟩ ⟨a2.1, fun i d e q1 q2 => nl (a2.2 i d e q1 q2)⟩
theorem LRow.low {lo lo' : Nat} {L : LH} {row d : D} (hl : lo' ≤ lo) (h : LRow lo L row d) : LRow lo' L row d := by
  have nl : ∀ {d e : D}, NewL lo L d e → NewL lo' L d e := fun {d e} q => by
    obtain ⟨xs, n, e1, e2, h1, h2⟩ := q
    exact ⟨xs, n, e1, e2, by omega, h2⟩
  cases h with
  | rows l1 l2 l3 c1 c2 c3 => exact .rows (by omega) (by omega) (by omega) c1 c2 c3
  | terms l1 l2 l3 c1 c2 c3 a1 a2 => exact .terms (by omega) (by omega) (by omega) c1 c2 c3 ⟨a1.1, fun i d e q1 q2 => nl (a1.2 i d e q1 q2)⟩ ⟨a2.1, fun i d e q1 q2 => nl (a2.2 i d e q1 q2)⟩
theorem rf_of {n : Nat} : ∀ {rows : List D}, (∀ row ∈ rows, RowOk n row) → ∃ rf : List RFn, rf.length = rows.length ∧ ∀ (k : Nat) (row : D), rows[k]? = some row → RowOk n row ∧ RowF row (rfAt rf k).1 (rfAt rf k).2 ∧ Hs n (rfAt rf k).1 ∧ (rfAt rf k).1.length ≤ 4
  | [], _ => ⟨[], rfl, fun k row e => by simp at e⟩
  | row :: rows, h => by
    obtain ⟨rf, h1, h2⟩ := rf_of (rows := rows) fun r hr => h r (List.mem_cons_of_mem _ hr)
    obtain ⟨hs, f, a, b, c⟩ := (h row List.mem_cons_self).fn
    refine ⟨(hs, f) :: rf, by simp [h1], fun k r e => ?_⟩
    cases k with
    | zero =>
      cases e
      exact ⟨h row List.mem_cons_self, a, b, c⟩
    | succ k => exact h2 k r (by simpa using e)
theorem webAt_up {L L2 : LH} {rows : List D} {w : Nat} (h : WebAt K L rows w) (x : Ex' L L2) : WebAt K L2 rows w := by
  obtain ⟨ts, q1, q2⟩ := h
  exact ⟨ts, x _ _ q1, q2.1, fun i d e e1 e2 => (q2.2 i d e e1 e2).up x⟩
theorem drawn_dig {n : Nat} {ds : List Int} (h : Drawn (List.replicate n 2) ds) : ds.length = n ∧ Dig ds := by
  have hl : ds.length = n := by rw [h.1, List.length_replicate]
  refine ⟨hl, fun d hd => ?_⟩
  obtain ⟨j, hj, rfl⟩ := List.getElem_of_mem hd
  have := h.2 j _ 2 (List.getElem?_eq_getElem hj) (by rw [List.getElem?_replicate, if_pos (by omega)])
  omega
theorem RunAt.up {L L2 : LH} {rf : List RFn} {top : Int} {lv : List Int} {mr mw : Nat} {run : List Bt} (h : RunAt L rf top lv mr mw run) (x : Ex' L L2) : RunAt L2 rf top lv mr mw run := by
  obtain ⟨g, ⟨es, c1, c2, c3⟩, w, l⟩ := h
  exact ⟨g, ⟨es, x _ _ c1, c2, fun i d b e1 e2 => (c3 i d b e1 e2).up x⟩, x _ _ w, l⟩
/-! ### levels stay levels -/
theorem lvOk_set {top v : Int} {a : List Int} {k : Nat} (h : LvOk top a) (h1 : 0 ≤ v) (h2 : v ≤ top) : LvOk top (a.set k v) := fun l hl => by
  rcases List.mem_or_eq_of_mem_set hl with q | q
  · exact h l q
  · rw [q]; exact ⟨h1, h2⟩
theorem lvOk_fold {rf : List RFn} {top : Int} {lv : List Int} : ∀ (b : Bt) (a : List Int), LvOk top a → (∀ m ∈ b, GoodMv rf top lv m) → LvOk top (b.foldl (mvP lv) a)
  | [], a, h, _ => h
  | m :: b, a, h, hb => by
    rw [List.foldl_cons]
    have g := hb m List.mem_cons_self
    exact lvOk_fold b _ (lvOk_set h g.lo g.hi) fun n hn => hb n (List.mem_cons_of_mem _ hn)
theorem lvOk_at {rf : List RFn} {top : Int} {lv : List Int} {run : List Bt} (h0 : LvOk top lv) (hg : GoodRun rf top lv run) : ∀ i, i ≤ run.length → LvOk top (lvAt lv run i)
  | 0, _ => h0
  | i + 1, h => by
    have hi : i < run.length := by omega
    have e : run[i]? = some run[i] := List.getElem?_eq_getElem hi
    rw [lvAt_succ e]
    exact lvOk_fold _ _ (lvOk_at h0 hg i (by omega)) (hg.all i _ e).all
/-! ### a run cut short -/
theorem lvAt_take {lv : List Int} {run : List Bt} {k i : Nat} (h : i ≤ k) : lvAt lv (run.take k) i = lvAt lv run i := by
  unfold lvAt
  rw [List.take_take, Nat.min_eq_left h]
theorem lvsD_take {lv : List Int} {run : List Bt} {k : Nat} : ∀ {n : Nat}, n ≤ k + 1 → lvsD lv (run.take k) n = lvsD lv run n
  | 0, _ => rfl
  | n + 1, h => by rw [lvsD_succ, lvsD_succ, lvsD_take (by omega), lvAt_take (by omega)]
theorem lvsD_pre {lv : List Int} {run : List Bt} {n m : Nat} (h : m ≤ n) : (lvsD lv run n).take m = lvsD lv run m := by
  unfold lvsD
  rw [← List.map_take, List.take_range, Nat.min_eq_left h]
theorem GoodRun.take {rf : List RFn} {top : Int} {lv : List Int} {run : List Bt} (h : GoodRun rf top lv run) (k : Nat) : GoodRun rf top lv (run.take k) := ⟨fun i b e => by
  have hi := (List.getElem?_eq_some_iff.mp e).1
  rw [List.length_take] at hi
  rw [List.getElem?_take_of_lt (by omega)] at e
  rw [lvAt_take (by omega)]
  exact h.all i b e⟩
theorem cut_less {α : Type} {xs : List α} : cutA xs none (some (-1)) = xs.take (xs.length - 1) := by
  unfold cutA
  have e : HT.sIx xs.length xs.length (some (-1)) = xs.length - 1 := by
    show (if (-1 : Int) < 0 then ((-1 : Int) + (xs.length : Int)).toNat else min (-1 : Int).toNat xs.length) = _
    rw [if_pos (by decide)]
    omega
  rw [e, HT.sIx_none, List.drop_zero, Nat.sub_zero]
theorem cut_to {α : Type} {xs : List α} {k : Nat} : cutA xs none (some (k : Int)) = xs.take k := by
  unfold cutA
  rw [HT.sIx_nat, HT.sIx_none, List.drop_zero, Nat.sub_zero]
  by_cases h : k ≤ xs.length
  · rw [Nat.min_eq_left h]
  · rw [Nat.min_eq_right (by omega), List.take_of_length_le (Nat.le_refl _), List.take_of_length_le (by omega)]
theorem rw_maxI {P : D → LH → Prop} {L : LH} {i j : Int} : Rw (max2D [.int i, .int j] L) P = P (.int (if i < j then j else i)) L := rfl
/-! ### what was handed in is changed -/
theorem w_change {env : Sl} {L0 Lm : LH} {mh hi : Nat} {fs : List D} {bs : List (Nat × Nat)} {run : List Bt} {P : Sl → LH → Prop} {Q : D → LH → Prop} (hx : Ex' L0 Lm) (h0 : L0.length ≤ mh) (hc : Lm[mh]? = some (.lst true fs)) (hs : Sep (BmT Lm) (mh + 1) hi (run.map btD) fs bs) (hrl : run.length ≤ 500) (hbl : ∀ b ∈ run, b.length ≤ 12) (hdl : ∀ b ∈ run, ∀ m ∈ b, m.2.2.length ≤ 4)
    (he : env[12]? = some (some (.ref mh))) (hel : env.length = 16) (hP : ∀ s13 s14 L', Ex' L0 L' → P ((env.set 13 s13).set 14 s14) L') (hP0 : ∀ L', Ex' L0 L' → P env L') :
    Sw (sFor (iSrc (eVar 12)) (gNm 13) (sSeq (sFor (iSrc (eVar 13)) (gNm 14) (sDrop (eBm isL appendD (eOp ixD (eVar 14) (eK (.int 2))) (aCons (eK (.int 0)) (aNil))))) (sDrop (eBm isL appendD (eVar 13) (aCons (eLst (aCons (eK (.int 0)) (aCons (eK (.int 1)) (aCons (eLst (aNil)) (aNil))))) (aNil))))) env Lm) P Q := by
  rw [sw_for, rw_src, rw_var he]
  refine rw_srcL (lst_of hc) ?_
  have hfl : fs.length ≤ 500 := by rw [hs.le, List.length_map]; exact hrl
  refine forD_w (xs := fs) (fun i env' L' => (env' = env ∨ ∃ s13 s14, env' = (env.set 13 s13).set 14 s14) ∧ ∃ u, mh + 1 ≤ u ∧ (∀ (j : Nat) (b : Nat × Nat), i ≤ j → bs[j]? = some b → u ≤ b.1) ∧ Off (mh + 1) u Lm L')
    (fun i env' L' _ hI => by obtain ⟨_, u, _, _, o⟩ := hI; exact src_atL (lst_of (o mh _ (.inl (Nat.lt_succ_self _)) hc))) (fun i env' L' e hd hI => ?_) (fun env' L' hI => ?_) turnsN 0 _ _ (by simp [turnsN]; omega) (Nat.zero_le _) ⟨.inl rfl, mh + 1, Nat.le_refl _, fun j b _ e => by
      have hj := (List.getElem?_eq_some_iff.mp e).1
      have h2 := hs.lb
      have h3 := hs.le
      exact (hs.at' j _ _ b (List.getElem?_eq_getElem (by omega)) (List.getElem?_eq_getElem (by omega)) e).2.1, Off.refl⟩
  · obtain ⟨henv, u, u1, u2, o⟩ := hI
    have hi : i < fs.length := (List.getElem?_eq_some_iff.mp hd).1
    have hir : i < run.length := by have := hs.le; rw [List.length_map] at this; omega
    have er : run[i]? = some run[i] := List.getElem?_eq_getElem hir
    have hbi := hbl _ (List.getElem_mem hir)
    have hdi := hdl _ (List.getElem_mem hir)
    obtain ⟨y, bb, e1, e2, ⟨b', g1, g2⟩, g3, g4, g5⟩ := hs.get (i := i) (d := btD run[i]) (by rw [List.getElem?_map, er]; rfl)
    rw [hd] at e1
    cases e1
    have := btD_inj g1
    subst this
    generalize run[i] = b at g2 hbi hdi
    have ul := u2 i bb (Nat.le_refl _) e2
    have g2' := g2.stay (o.stay (lo' := bb.1) (hi' := bb.2) (.inl ul))
    obtain ⟨n, ms, bs2, rfl, n1, n2, n3, n4⟩ := g2'
    have hml : ms.length ≤ 12 := by rw [n4.le, List.length_map]; exact hbi
    refine ⟨env'.set 13 (some (.ref n)), rfl, ?_⟩
    have henv2 : ∃ s14, env'.set 13 (some (.ref n)) = (env.set 13 (some (.ref n))).set 14 s14 := by
      rcases henv with q | ⟨s13, s14, q⟩
      · refine ⟨env[14]'(by omega), ?_⟩
        rw [q]
        refine List.ext_getElem (by simp) fun z h1 h2 => ?_
        by_cases z14 : z = 14
        · subst z14; simp
        · rw [List.getElem_set_ne (Ne.symm z14) (by simpa using h2)]
      · refine ⟨s14, ?_⟩
        rw [q]
        refine List.ext_getElem (by simp) fun z h1 h2 => ?_
        by_cases z13 : z = 13
        · subst z13; simp [hel]
        · by_cases z14 : z = 14
          · subst z14; simp [hel]
          · simp [List.getElem_set, Ne.symm z13, Ne.symm z14]
    obtain ⟨s14, henv2⟩ := henv2
    rw [henv2]
    clear henv henv2
    have h13 : ∀ s14, ((env.set 13 (some (.ref n))).set 14 s14)[13]? = some (some (.ref n)) := fun s14 => by simp [hel]
    rw [sw_seq, sw_for, rw_src, rw_var (h13 s14)]
    refine rw_srcL (lst_of n3) ?_
    refine forD_w (xs := ms) (fun q env' L2 => (∃ s14, env' = (env.set 13 (some (.ref n))).set 14 s14) ∧ ∃ v, n + 1 ≤ v ∧ v ≤ bb.2 ∧ (∀ (j : Nat) (c : Nat × Nat), q ≤ j → bs2[j]? = some c → v ≤ c.1) ∧ Off (n + 1) v L' L2)
      (fun q env' L2 _ hI => by obtain ⟨_, v, _, _, _, o2⟩ := hI; exact src_atL (lst_of (o2 n _ (.inl (Nat.lt_succ_self _)) n3))) (fun q env' L2 e hd2 hI => ?_) (fun env' L2 hI => ?_) turnsN 0 _ _ (by simp [turnsN]; omega) (Nat.zero_le _) ⟨⟨s14, rfl⟩, n + 1, Nat.le_refl _, n2, fun j c _ ec => by
        have hj := (List.getElem?_eq_some_iff.mp ec).1
        have h2 := n4.lb
        have h3 := n4.le
        exact (n4.at' j _ _ c (List.getElem?_eq_getElem (by omega)) (List.getElem?_eq_getElem (by omega)) ec).2.1, Off.refl⟩
    · obtain ⟨⟨t14, rfl⟩, v, v1, v2, v3, o2⟩ := hI
      have hq : q < ms.length := (List.getElem?_eq_some_iff.mp hd2).1
      have hqb : q < b.length := by have := n4.le; rw [List.length_map] at this; omega
      have eb : b[q]? = some b[q] := List.getElem?_eq_getElem hqb
      have hdq := hdi _ (List.getElem_mem hqb)
      obtain ⟨y, cc, e1, e3, g, k1, k2, k3⟩ := n4.get (i := q) (d := mvD b[q]) (by rw [List.getElem?_map, eb]; rfl)
      rw [hd2] at e1
      cases e1
      generalize b[q] = m at g hdq
      have vl := v3 q cc (Nat.le_refl _) e3
      obtain ⟨m', c, k, p1, rfl, p2, p3, p4, p5, p6⟩ := g.stay (o2.stay (lo' := cc.1) (hi' := cc.2) (.inl vl))
      have := mvD_inj p1
      subst this
      refine ⟨_, rfl, ?_⟩
      have h14 : (((env.set 13 (some (.ref n))).set 14 t14).set 14 (some (.ref k)))[14]? = some (some (.ref k)) := by simp [hel]
      rw [sw_drop, rw_bm, rw_op, rw_var h14, rw_k]
      refine rw_ixL (lst_of p5) (k := 2) (d := .ref c) rfl rfl ?_
      rw [if_pos (isL_of p6), rw_cons, rw_k, rw_nil]
      refine rw_app p6 (by rw [List.length_map]; omega) ?_
      refine ⟨⟨some (.ref k), by rw [List.set_set]⟩, cc.2, by omega, k3, fun j c2 hj e4 => n4.ord q j cc c2 (by omega) e3 e4, ?_⟩
      exact (o2.mono (Nat.le_refl _) (by omega)).set (by omega) (by omega)
    · obtain ⟨⟨t14, rfl⟩, v, v1, v2, v3, o2⟩ := hI
      have c2 := o2 n _ (.inl (Nat.lt_succ_self _)) n3
      rw [sw_drop, rw_bm, rw_var (h13 t14), if_pos (isL_of c2), rw_cons]
      refine rw_lstW ?_
      rw [rw_cons, rw_k, rw_cons, rw_k, rw_cons]
      refine rw_lstW ?_
      rw [rw_nil]
      refine ⟨by decide, fun L5 x5 c5 => ?_⟩
      rw [rw_nil]
      refine ⟨by show (3 : Nat) ≤ 100000; decide, fun L6 x6 c6 => ?_⟩
      rw [rw_nil]
      refine rw_app (x6 _ _ (x5 _ _ c2)) (by omega) ?_
      refine ⟨.inr ⟨_, _, rfl⟩, bb.2, by omega, fun j c hj ec => hs.ord i j bb c (by omega) e2 ec, ?_⟩
      exact (((o.mono (Nat.le_refl _) (by omega)).trans (o2.mono (by omega) v2)).trans (x5.trans x6).off).set (by omega) n2
  · obtain ⟨henv, u, u1, u2, o⟩ := hI
    have x := o.ex hx (by omega)
    rcases henv with q | ⟨s13, s14, q⟩
    · rw [q]; exact hP0 _ x
    · rw [q]; exact hP _ _ _ x
end K26
set_option Elab.async false
set_option linter.all false
set_option maxRecDepth 100000
set_option maxHeartbeats 4000000
namespace K26
open PySem PySem.Spec PyProof.Rows L2 GxR DW GxA DI
variable {K : PySem.W.Frag}
theorem math : Math := by
  intro K b ns hnodup hlen hbits
  have hnd : He.ga K "TermsTable" ≠ He.ga K "RowsTable" := fun e => by
    have := hnodup
    simp only [List.map_cons, List.map_nil, List.nodup_cons] at this
    exact this.2.1 (by rw [e]; simp)
  suffices h : Rw (F_law K [.ref 0] [.lst b (ns.map DI.D.int)]) fun v _ => v = .bl true by
    obtain ⟨v, L, e, rfl⟩ := h.ok
    exact ⟨L, e⟩
  have hs : lstAt [Cell.lst b (ns.map DI.D.int)] 0 = some (ns.map D.int) := rfl
  generalize [Cell.lst b (ns.map DI.D.int)] = L0 at hs
  unfold F_law m_law
  rw [rw_fnD]
  show Sw (sSeq _ _ [some (.ref 0), none, none, none, none, none, none, none, none, none, none, none, none, none, none, none] L0) _ _
  rw [sw_seq, sw_asgN, rw_op, rw_k, rw_op, rw_call, rw_cons, rw_fn, rw_cons, rw_var rfl, rw_cons, rw_k, rw_nil]
  refine if_len rfl ?_
  refine w_cell (b := b) hs (k := 0) rfl ?_
  rw [rw_nil, rw_intI, rw_k, rw_modE (by decide), rw_addI]
  obtain ⟨size, hsize, h1, h12⟩ : ∃ size : Nat, 1 + (ns.getD 0 0).fmod 12 = (size : Int) ∧ 1 ≤ size ∧ size ≤ 12 := by
    have a := Int.fmod_nonneg_of_pos (ns.getD 0 0) (b := 12) (by decide)
    have c := Int.fmod_lt_of_pos (ns.getD 0 0) (b := 12) (by decide)
    exact ⟨(1 + (ns.getD 0 0).fmod 12).toNat, by omega, by omega, by omega⟩
  rw [hsize]
  clear hsize
  -- the draws
  rw [sw_seq, sw_asgN, rw_fn, rw_cons, rw_fn, rw_cons, rw_var rfl, rw_cons, rw_k, rw_nil]
  refine if_len rfl ?_
  refine w_cell (b := b) hs (k := 1) rfl ?_
  rw [rw_cons]
  refine rw_lstW ?_
  rw [rw_cons, rw_k, rw_cons, rw_k, rw_cons, rw_k, rw_cons, rw_k, rw_cons, rw_k, rw_nil]
  refine ⟨by show (5 : Nat) ≤ 100000; decide, fun L1 x1 c1 => ?_⟩
  rw [rw_nil]
  refine if_len rfl ?_
  refine (w_draws (ss := [8, 7, 8, 14, 40]) (lst_of c1) (by decide) (by decide)).mono fun v L2 hv => ?_
  obtain ⟨x2, m2, ds, rfl, _, c2, hdr⟩ := hv
  obtain ⟨d0, e0, d0a, d0b⟩ := drawn_at hdr (i := 0) (s := 8) rfl
  obtain ⟨d1, e1, d1a, d1b⟩ := drawn_at hdr (i := 1) (s := 7) rfl
  obtain ⟨d2, e2, d2a, d2b⟩ := drawn_at hdr (i := 2) (s := 8) rfl
  obtain ⟨d3, e3, d3a, d3b⟩ := drawn_at hdr (i := 3) (s := 14) rfl
  obtain ⟨d4, e4, d4a, d4b⟩ := drawn_at hdr (i := 4) (s := 40) rfl
  have y2 := x1.trans x2
  rw [sw_seq, sw_asgN, rw_op, rw_k, rw_op, rw_var rfl, rw_k]
  refine rw_ixL (lst_of c2) (k := 1) (map_at e1) rfl ?_
  rw [rw_addI, sw_seq]
  refine Sw.mono (P := fun env L' => L' = L2 ∧ ∃ top : Int, TopOk top ∧ env = [some (.ref 0), some (.int (size : Nat)), some (.ref m2), some (.int top), none, none, none, none, none, none, none, none, none, none, none, none]) ?_ (fun env L' hI => ?_) fun d L' h => h
  · rw [sw_if, rw_val, rw_op, rw_op, rw_var rfl, rw_k]
    refine rw_ixL (lst_of c2) (k := 0) (map_at e0) rfl ?_
    rw [rw_k, rw_eqI]
    show if decide _ = true then _ else _
    refine if_sp (fun _ => ?_) (fun _ => ?_)
    · rw [sw_asgN, rw_op, rw_k, rw_op, rw_call, rw_cons, rw_fn, rw_cons, rw_var rfl, rw_cons, rw_k, rw_nil]
      refine if_len rfl ?_
      refine w_cell (b := b) (y2.lst hs) (k := 2) rfl ?_
      rw [rw_nil, rw_intI, rw_op, rw_k, rw_k]
      refine rw_powI ⟨by decide, by decide, by decide⟩ ?_
      have e10 : (10 : Int) ^ (30 : Int).toNat = 1000000000000000000000000000000 := by decide +kernel
      rw [e10, rw_modE (by decide), rw_addI]
      have a := Int.fmod_nonneg_of_pos (ns.getD 2 0) (b := 1000000000000000000000000000000) (by decide)
      have c := Int.fmod_lt_of_pos (ns.getD 2 0) (b := 1000000000000000000000000000000) (by decide)
      refine ⟨rfl, _, ⟨by omega, ?_⟩, rfl⟩
      have e127 : (2 : Int) ^ 127 = 170141183460469231731687303715884105728 := by decide +kernel
      rw [e127]
      omega
    · rw [sw_nx]
      refine ⟨rfl, 1 + d1, ⟨by omega, ?_⟩, rfl⟩
      have e127 : (2 : Int) ^ 127 = 170141183460469231731687303715884105728 := by decide +kernel
      rw [e127]
      omega
  obtain ⟨rfl, top, ht, rfl⟩ := hI
  -- the rows
  rw [sw_seq, sw_asgN]
  refine rw_lcR ?_
  rw [rw_arg, rw_cons, rw_var rfl, rw_nil]
  refine rw_rng1 (by omega) ?_
  rw [Int.toNat_natCast]
  refine ⟨(List.range size).map fun k => D.int (k : Nat), fun _ _ e => RowOk size e, by simp; omega, fun L2 _ i _ => rng_at, fun _ _ _ _ _ q => q, fun d hd L2 x2 hn => ?_, fun L3 rows x3 c3 a3 => ?_⟩
  · obtain ⟨i, hi, rfl⟩ := List.mem_map.mp hd
    have hi2 := List.mem_range.mp hi
    refine ⟨_, rfl, rfl, Ex'.refl, ?_⟩
    rw [rw_fn, rw_cons, rw_fn, rw_cons, rw_var rfl, rw_cons, rw_op, rw_k, rw_var rfl, rw_addI, rw_nil]
    refine if_len rfl ?_
    refine w_cell (b := b) ((y2.trans x2).lst hs) (k := 4 + i) (by omega) ?_
    rw [rw_cons, rw_var rfl, rw_cons, rw_var rfl, rw_cons, rw_k, rw_nil]
    refine if_len rfl ?_
    exact w_table ⟨h1, h12⟩ hi2
  have hrl : rows.length = size := by rw [a3.1]; simp
  have hrow : ∀ row ∈ rows, RowOk size row := fun row hr => by
    obtain ⟨j, hj, rfl⟩ := List.getElem_of_mem hr
    have hj2 : j < size := by omega
    exact a3.2 j (.int (j : Nat)) _ (by rw [List.getElem?_map, List.getElem?_range hj2]; rfl) (List.getElem?_eq_getElem hj)
  clear a3
  subst hrl
  obtain ⟨rf, hf1, hf2⟩ := rf_of hrow
  have hrf : RowsF rows rf := ⟨hf1, hf2⟩
  have y3 := y2.trans x3
  -- the start
  rw [sw_seq, sw_asgN, rw_fn, rw_cons, rw_fn, rw_cons, rw_var rfl, rw_cons, rw_k, rw_nil]
  refine if_len rfl ?_
  refine w_cell (b := b) (y3.lst hs) (k := 3) rfl ?_
  rw [rw_cons, rw_op]
  refine rw_lstW ?_
  rw [rw_cons, rw_k, rw_nil]
  refine ⟨by show (1 : Nat) ≤ 100000; decide, fun L4 x4 c4 => ?_⟩
  rw [rw_var rfl]
  refine rw_repW c4 (k := rows.length) rfl (by omega) (by simp; omega) fun L5 x5 c5 => ?_
  have e5 : (List.replicate rows.length [D.int 2]).flatten = (List.replicate rows.length (2 : Int)).map D.int := by simp
  rw [e5] at c5
  rw [rw_nil]
  refine if_len rfl ?_
  refine (w_draws (lst_of c5) (fun z hz => by rw [(List.mem_replicate.mp hz).2]; decide) (by simp; omega)).mono fun v L6 hv => ?_
  obtain ⟨x6, m6, st, rfl, _, c6, hd6⟩ := hv
  obtain ⟨hsl, hD⟩ := drawn_dig hd6
  have x36 := (x4.trans x5).trans x6
  have y6 := y3.trans x36
  have c26 := x36 _ _ (x3 _ _ c2)
  -- the count
  rw [sw_seq, sw_asgN]
  refine Rw.mono (P := fun d L' => ∃ c : Nat, c ≤ 40 ∧ d = .int (c : Nat) ∧ L' = L6) ?_ (fun d L' hd => ?_)
  · rw [rw_eIf, rw_val, rw_op, rw_op, rw_var rfl, rw_k]
    refine rw_ixL (lst_of c26) (k := 2) (map_at e2) rfl ?_
    rw [rw_k, rw_eqI]
    show if decide _ = true then _ else _
    refine if_sp (fun _ => ?_) (fun _ => ?_)
    · rw [rw_op, rw_var rfl, rw_k]
      refine rw_ixL (lst_of c26) (k := 4) (map_at e4) rfl ?_
      exact ⟨d4.toNat, by omega, by rw [Int.toNat_of_nonneg d4a], rfl⟩
    · rw [rw_op, rw_var rfl, rw_k]
      refine rw_ixL (lst_of c26) (k := 3) (map_at e3) rfl ?_
      exact ⟨d3.toNat, by omega, by rw [Int.toNat_of_nonneg d3a], rfl⟩
  obtain ⟨cnt, hcnt, rfl, rfl⟩ := hd
  -- the run
  rw [sw_seq]
  refine sw_asgE ?_
  rw [rw_fn, rw_cons, rw_var rfl, rw_cons, rw_var rfl, rw_cons, rw_var rfl, rw_cons, rw_var rfl, rw_cons, rw_var rfl, rw_nil]
  refine if_len rfl ?_
  refine (w_law_run (bb := b) (cnt := cnt) (y6.lst hs) (x36.lst (lst_of c3)) hrf h12 ht (lst_of c6) hsl hD (by omega)).mono fun v L7 hv => ?_
  obtain ⟨x7, mr, mw, run, rfl, hra, hrn⟩ := hv
  refine ⟨_, gTp2 rfl, ?_⟩
  have hlv0 : (st.map (top * ·)).length = rows.length := by rw [List.length_map, hsl]
  have hlvOk : LvOk top (st.map (top * ·)) := fun l hl => by
    obtain ⟨d, hd, rfl⟩ := List.mem_map.mp hl
    have := ht.1
    show 0 ≤ top * d ∧ top * d ≤ top
    rcases hD d hd with q | q <;> rw [q] <;> omega
  have hr7 := x7.lst (x36.lst (lst_of c3))
  have c67 := x7 _ _ c6
  -- the web
  rw [sw_seq, sw_asgN]
  refine rw_mk ?_
  rw [rw_cons]
  refine rw_lcR ?_
  rw [rw_src, rw_var rfl]
  refine rw_srcL hr7 ⟨rows, LRow (L7.length + 1), by omega, fun L2 x i _ => src_atL (x.lst hr7), fun d e L2 L3 x q => q.imp fun i xs hi hx => lst_exB x (by omega) hx, fun d hd L2 x2 hn => ?_, fun L11 ds x11 c11 a11 => ?_⟩
  · refine ⟨_, rfl, rfl, Ex'.refl, ?_⟩
    rw [rw_fn, rw_cons, rw_var rfl, rw_nil]
    refine if_len rfl ?_
    exact (w_lists (hrow d hd)).mono fun v L3 hv => ⟨hv.1, hv.2.low hn⟩
  rw [rw_nil]
  refine ⟨rfl, ?_⟩
  have xa : Ex' L11 (L11 ++ [Cell.ins (He.ga K "Web") []]) := Ex'.app
  have ca : (L11 ++ [Cell.ins (He.ga K "Web") []])[L11.length]? = some (.ins (He.ga K "Web") []) := by simp
  refine w_Web_init (lo := L7.length + 1) ca (lst_of (xa _ _ c11)) hrow ⟨h1, h12⟩ ⟨a11.1, fun i d e q1 q2 => (a11.2 i d e q1 q2).up xa⟩ (.inr trivial) (fun row d L2 x q => q.imp fun i xs hi hx => lst_exB x (fun z => by
    rw [z] at hx
    unfold lstAt at hx
    rw [ca] at hx
    cases hx) hx) fun LW xb hw => ⟨rfl, ?_⟩
  have xW : Ex' L11 LW := exB_app xb
  have x7W := x11.trans xW
  have hra := hra.up x7W
  have cS : LW[m6]? = some (.lst true (st.map D.int)) := x7W _ _ c67
  generalize hw0 : L11.length = w at hw
  clear xb xa ca a11 c11
  obtain ⟨hg, ⟨es, ce, esl, hes⟩, cw, hln⟩ := id hra
  have hdl : ∀ b ∈ run, ∀ m ∈ b, m.2.2.length ≤ 4 := fun b hb m hm => by
    obtain ⟨j, hj, rfl⟩ := List.getElem_of_mem hb
    have g := (hg.all j _ (List.getElem?_eq_getElem hj)).all m hm
    have hk : m.1 < rows.length := by have := g.house; omega
    have := (hrf.at' m.1 _ (List.getElem?_eq_getElem hk)).2.2.2
    have := g.len
    omega
  -- handed in as lists
  rw [sw_seq, sw_asgN, rw_fn, rw_cons, rw_var rfl, rw_nil]
  refine if_len rfl ?_
  refine (w_run_lists ce esl hes (by omega) hln).mono fun v LH1 hv => ?_
  obtain ⟨xH, mh, fs, bs, rfl, hmh, cH, sH⟩ := hv
  rw [sw_seq, sw_if, rw_bOr, rw_not, rw_truL, rw_fn, rw_cons, rw_var rfl, rw_cons, rw_var rfl, rw_cons, rw_call, rw_cons, rw_var rfl, rw_nil]
  refine rw_listD (.lst (lst_of (xH _ _ cS))) fun L12 x12 c12 => ?_
  rw [rw_cons, rw_var rfl, rw_cons, rw_var rfl, rw_nil]
  refine if_len rfl ?_
  have xW12 := xH.trans x12
  have cH12 := x12 _ _ cH
  have sH12 := sep_up sH x12
  refine (w_walk_is hnd (webAt_up hw xW12) hrf h12 ht (.lst (lst_of c12)) hsl hD (sep_isRn cH12 sH12) hg (by omega) (lst_of (xW12 _ _ cw))).mono fun v L13 hv => ?_
  obtain ⟨rfl, x13⟩ := hv
  show if (!true) = true then _ else _
  rw [if_neg (by decide), rw_val, rw_op, rw_var rfl, rw_fn, rw_cons, rw_var rfl, rw_nil]
  refine if_len rfl ?_
  have xW13 := xW12.trans x13
  refine (w_run_lists (xW13 _ _ ce) esl (fun i d b q1 q2 => (hes i d b q1 q2).up xW13) (by omega) hln).mono fun v L14 hv => ?_
  obtain ⟨x14, mh2, fs2, bs2, rfl, _, c14, s14⟩ := hv
  have x1214 := x13.trans x14
  rw [rw_neSame (p := .list (run.map pBt)) (n := 4) (pd_run (n := 7) (x1214 _ _ cH12) (sep_up sH12 x1214)) (pd_run (n := 7) c14 s14) ps_run (by decide)]
  show (if false = true then _ else _)
  rw [if_neg (by decide), sw_nx]
  -- the change
  have xW14 := xW13.trans x14
  rw [sw_seq]
  refine Sw.mono (P := fun env L' => Ex' LW L' ∧ ∃ s4 s5 s11 s13 s14 s15, env = [some (.ref 0), some (.int (rows.length : Nat)), some (.ref m2), some (.int top), s4, s5, some (.ref m6), some (.int (cnt : Nat)), some (.ref mr), some (.ref mw), some (.ref w), s11, some (.ref mh), s13, s14, s15])
    (w_change (L0 := LW) (run := run) xW14 hmh (x1214 _ _ cH12) (sep_up sH12 x1214) (by omega) hln hdl rfl rfl (fun s13 s14 L' x => ⟨x, _, _, _, _, _, _, by rw [← hw0]; rfl⟩) (fun L' x => ⟨x, _, _, _, _, _, _, by rw [← hw0]; rfl⟩)) (fun env L' hI => ?_) fun d L h => h
  obtain ⟨xL, s4, s5, s11, s13, s14, s15, rfl⟩ := hI
  -- tuples
  rw [sw_seq, sw_if, rw_not, rw_truL, rw_fn, rw_cons, rw_var rfl, rw_cons, rw_var rfl, rw_cons, rw_call, rw_cons, rw_var rfl, rw_nil, rw_tupleS (.lst (lst_of (xL _ _ cS))), rw_cons, rw_call, rw_cons]
  refine rw_lc ?_
  rw [rw_src, rw_var rfl]
  refine rw_srcL (lst_of (xL _ _ ce)) ⟨es, fun _ => true, fun d => .tup ((seqD LW d).getD []), by omega, fun L2 x i _ => src_atL ((xL.trans x).lst (lst_of ce)), fun d hd L2 x2 => ?_, fun L20 x20 c20 => ?_⟩
  · obtain ⟨j, hj, rfl⟩ := List.getElem_of_mem hd
    have hj2 : j < run.length := by omega
    obtain ⟨n, en, cn⟩ := hes j _ _ (List.getElem?_eq_getElem hj) (List.getElem?_eq_getElem hj2)
    rw [en]
    refine ⟨_, rfl, rfl, Ex'.refl, fun _ => ?_⟩
    rw [rw_call, rw_cons]
    rw [show ∀ P : D → LH → Prop, Rw (eVar 13 _ L2) P = P (.ref n) L2 from fun _ => rfl, rw_nil, rw_tupleL (lst_of ((xL.trans x2) _ _ cn))]
    refine ⟨?_, Ex'.refl⟩
    show D.tup (run[j].map mvD) = D.tup ((seqD LW (.ref n)).getD [])
    rw [seq_lst (lst_of cn)]
    rfl
  have eT : (es.filter fun _ => true).map (fun d => D.tup ((seqD LW d).getD [])) = run.map btD := by
    rw [List.filter_eq_self.mpr fun _ _ => rfl]
    refine List.ext_getElem (by rw [List.length_map, List.length_map, esl]) fun j h1 h2 => ?_
    have hj : j < es.length := by simpa using h1
    have hj2 : j < run.length := by omega
    obtain ⟨n, en, cn⟩ := hes j _ _ (List.getElem?_eq_getElem hj) (List.getElem?_eq_getElem hj2)
    rw [List.getElem_map, List.getElem_map, en, seq_lst (lst_of cn)]
    rfl
  rw [eT] at c20
  rw [rw_nil, rw_tupleL (lst_of c20), rw_cons, rw_var rfl, rw_nil]
  refine if_len rfl ?_
  have z20 := xL.trans x20
  refine (w_walk_is (rd := .tup (run.map btD)) hnd (webAt_up hw z20) hrf h12 ht (.tup _) hsl hD ⟨_, .tup _, by rw [List.length_map], fun i d b q1 q2 => by
    rw [List.getElem?_map, q2] at q1
    cases q1
    exact isMs_l (.tup _)⟩ hg (by omega) (lst_of (z20 _ _ cw))).mono fun v L21 hv => ?_
  obtain ⟨rfl, x21⟩ := hv
  show if (!true) = true then _ else _
  rw [if_neg (by decide), sw_nx]
  have z21 := z20.trans x21
  -- all but the last beat
  rw [sw_seq, sw_if, rw_not, rw_truL, rw_fn, rw_cons, rw_var rfl, rw_cons, rw_var rfl, rw_cons, rw_var rfl, rw_cons, rw_sl, rw_var rfl, rw_oN, rw_oS, rw_un, rw_k, show ∀ P : D → LH → Prop, Rw (negD (.int 1) L21) P = P (.int (-1)) L21 from fun _ => rfl]
  show Rw (slD _ _ _ _) _
  refine rw_slW (lst_of (z21 _ _ ce)) fun L22 x22 c22 => ?_
  rw [cut_less] at c22
  rw [rw_cons, rw_sl, rw_var rfl, rw_oN, rw_oS, rw_call, rw_cons, rw_k, rw_cons, rw_var rfl, rw_nil, rw_maxI]
  show Rw (slD _ _ _ _) _
  obtain ⟨mx, hmx, hmx2⟩ : ∃ mx : Nat, (if (1 : Int) < (cnt : Int) then (cnt : Int) else 1) = (mx : Int) ∧ mx = cnt - 1 + 1 := by
    by_cases q : 1 < cnt
    · exact ⟨cnt, by rw [if_pos (by omega)], by omega⟩
    · exact ⟨1, by rw [if_neg (by omega)]; rfl, by omega⟩
  rw [hmx]
  have z22 := z21.trans x22
  refine rw_slW (lst_of (z22 _ _ cw)) fun L23 x23 c23 => ?_
  rw [cut_to, hmx2, lvsD_pre (by omega)] at c23
  rw [rw_nil]
  refine if_len rfl ?_
  have z23 := z22.trans x23
  have hrl2 : (run.take (cnt - 1)).length = cnt - 1 := by rw [List.length_take]; omega
  have c23b : lstAt L23 L22.length = some (lvsD (st.map (top * ·)) (run.take (cnt - 1)) ((run.take (cnt - 1)).length + 1)) := by
    rw [hrl2, lvsD_take (Nat.le_refl _)]
    exact lst_of c23
  refine (w_walk_is (run := run.take (cnt - 1)) hnd (webAt_up hw z23) hrf h12 ht (.lst (lst_of (z23 _ _ cS))) hsl hD ⟨_, .lst (lst_of (x23 _ _ c22)), by rw [List.length_take, List.length_take, esl]; omega, fun i d b q1 q2 => ?_⟩ (hg.take _) (by omega) c23b).mono fun v L24 hv => ?_
  · have hi := (List.getElem?_eq_some_iff.mp q2).1
    rw [hrl2] at hi
    rw [List.getElem?_take_of_lt (by omega)] at q1
    rw [List.getElem?_take_of_lt (by omega)] at q2
    exact ((hes i d b q1 q2).up z23).isMs
  obtain ⟨rfl, x24⟩ := hv
  show if (!true) = true then _ else _
  rw [if_neg (by decide), sw_nx]
  have z24 := z23.trans x24
  -- no beat
  rw [sw_seq, sw_if, rw_not, rw_truL, rw_fn, rw_cons, rw_var rfl, rw_cons, rw_var rfl, rw_cons, rw_var rfl, rw_cons]
  refine rw_lstW ?_
  rw [rw_nil]
  refine ⟨by decide, fun L25 x25 c25 => ?_⟩
  rw [rw_cons, rw_sl, rw_var rfl, rw_oN, rw_oS, rw_k]
  show Rw (slD _ _ _ _) _
  have z25 := z24.trans x25
  refine rw_slW (lst_of (z25 _ _ cw)) fun L26 x26 c26 => ?_
  rw [show (some 1 : Option Int) = some ((1 : Nat) : Int) from rfl, cut_to, lvsD_pre (by omega)] at c26
  rw [rw_nil]
  refine if_len rfl ?_
  have z26 := z25.trans x26
  refine (w_walk_is (run := []) hnd (webAt_up hw z26) hrf h12 ht (.lst (lst_of (z26 _ _ cS))) hsl hD ⟨_, .lst (lst_of (x26 _ _ c25)), rfl, fun i d b q1 q2 => by simp at q1⟩ ⟨fun i b q => by simp at q⟩ (by decide) (lst_of c26)).mono fun v L27 hv => ?_
  obtain ⟨rfl, x27⟩ := hv
  show if (!true) = true then _ else _
  rw [if_neg (by decide), sw_nx]
  have z27 := z26.trans x27
  -- the corner
  have c0 : (lvsD (st.map (top * ·)) run (run.length + 1))[0]? = some (.tup ((st.map (top * ·)).map D.int)) := lvsD_at (by omega)
  rw [sw_seq, sw_if, rw_bOr, rw_val, rw_op, rw_fn, rw_cons, rw_var rfl, rw_cons, rw_var rfl, rw_nil]
  refine if_len rfl ?_
  refine (w_corner ht (.lst (lst_of (z27 _ _ cS))) (by omega) hD).mono fun v L28 hv => ?_
  obtain ⟨rfl, x28⟩ := hv
  have z28 := z27.trans x28
  rw [rw_op, rw_var rfl, rw_k]
  refine rw_ixL (lst_of (z28 _ _ cw)) c0 rfl ?_
  rw [rw_neTI]
  show (if false = true then _ else _)
  rw [if_neg (by decide), rw_not, rw_truL, rw_fn, rw_cons, rw_fn, rw_cons, rw_var rfl, rw_cons, rw_var rfl, rw_nil]
  refine if_len rfl ?_
  refine (w_corner ht (.lst (lst_of (z28 _ _ cS))) (by omega) hD).mono fun v L29 hv => ?_
  obtain ⟨rfl, x29⟩ := hv
  rw [rw_cons, rw_var rfl, rw_nil]
  refine if_len rfl ?_
  refine (w_integers (by rw [hlv0]) (by omega)).mono fun v L30 hv => ?_
  obtain ⟨rfl, x30⟩ := hv
  show if (!true) = true then _ else _
  rw [if_neg (by decide), sw_nx]
  have z30 := (z28.trans x29).trans x30
  -- the rooms
  rw [sw_seq, sw_for, rw_src, rw_var rfl]
  refine rw_srcL (lst_of (z30 _ _ cw)) ?_
  refine forD_w (xs := lvsD (st.map (top * ·)) run (run.length + 1)) (fun i env L' => Ex' LW L' ∧ ∃ s15, env = [some (.ref 0), some (.int (rows.length : Nat)), some (.ref m2), some (.int top), s4, s5, some (.ref m6), some (.int (cnt : Nat)), some (.ref mr), some (.ref mw), some (.ref w), s11, some (.ref mh), s13, s14, s15])
    (fun i env L' _ hI => src_atL (lst_of (hI.1 _ _ cw))) (fun i env L' e hd hI => ?_) (fun env L' hI => ?_) turnsN 0 _ _ (by rw [lvsD_len]; simp [turnsN]; omega) (Nat.zero_le _) ⟨z30, s15, rfl⟩
  · obtain ⟨x, s15, rfl⟩ := hI
    have hi : i < run.length + 1 := by
      have := (List.getElem?_eq_some_iff.mp hd).1
      rw [lvsD_len] at this
      exact this
    rw [lvsD_at hi] at hd
    cases hd
    refine ⟨_, rfl, ?_⟩
    rw [sw_if, rw_not, rw_truL, rw_fn, rw_cons, rw_var rfl, rw_cons, rw_var rfl, rw_nil]
    refine if_len rfl ?_
    refine (w_rooms_are ht (by rw [lvAt_len]; omega) (lvOk_at hlvOk hg i (by omega))).mono fun v L31 hv => ?_
    obtain ⟨rfl, x31⟩ := hv
    show if (!true) = true then _ else _
    rw [if_neg (by decide), sw_nx]
    exact ⟨x.trans x31, _, rfl⟩
  · obtain ⟨x, s15, rfl⟩ := hI
    rw [sw_ret, rw_k]
end K26
open PySem PySem.W PyProof.Rows
theorem PySem.Challenge.cw_oldnews_k26_fine_runs_walked_holds : PySem.Challenge.rw_oldnews_k26_fine_runs_walked.Holds := by
  exact K26.holds_of K26.math
