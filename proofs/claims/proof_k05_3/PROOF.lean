import PyProof.Rows.All
import HandS.ForMost
import HandS.AnyAll
import HandS.GenList
import HandS.Exc
import HandS.ExcOwn
import HandS.TryOnly
import HandS.WordsExc
import HandS.Wide
import HandS.WideBits
import HandS.IsInst
import HandS.Zip
import HandS.TupAny
import HandS.RaiseMore
import PyProof.ReprReads
import PyProof.ReprRoads
import PyProof.P3In
import PyProof.WalkInts
import KE.KTupSum
import HandS.TupMul
import KE.GoesMore
import HandS.Defaults
import HandS.HeadEnd
import HandS.HeadHook1
import HandS.HeadHook2
import HandS.Head0
import HandS.Head1
import HandS.Head2
import HandS.HeadHook4
import HandS.EndBits
import KE.KNestM
import HandS.Iter
import HandS.Conv
import HandS.HeadHook3
import HandS.ExcInit
import HandS.Style
import PyProof.ReprLen
import KE.KIndexOf
import KE.GoesEnum
import HandS.RevRange
import KE.KDictZip
import KE.GoesZip
import PyProof.Draws
import HandS.ExcIs
import HandS.ExcField
import KE.KExcIs
import PyProof.StrBlock2
import HandS.SortInts
import HandS.Rev
import HandS.Replace
import HandS.StrMore
import KE.KStrWords
import KE.KWords
import KE.KIntText
import PyProof.StrLawsChain
import PyProof.StrLawsTight
import PySem.Challenge.RW_wholenet_k05_wrong_texts_refused
set_option Elab.async false
set_option linter.all false
set_option maxRecDepth 100000
namespace ML
open PySem PySem.Spec PyProof.Rows L2 GenW GxR

structure GenOk (N : List Str) (sc scope : Scope) (own : List (Str × Nat)) : Prop where
  blk : BlkOk N sc scope own
  co : scope.isCoroutine = false
  dot : scope.names.lookup (".0" : Str) = some NameKind.local
  dotN : (".0" : Str) ∉ N
  cell : ∀ y ∈ scope.names, y.2 ≠ .cell
def Kpt (s s' : Shared) : Prop := s'.os = s.os ∧ AllBare s'.gens ∧ ∀ b o, s.heap.get? b = some o → s'.heap.get? b = some o
theorem _root_.L2.Inv.kpt {X : Cx} {pins : List (Addr × Obj)} {σ : L2.St} {H : Hp} {s s' : Shared} (I : Inv X pins σ H s) (k : Kpt s s') : Inv X pins σ H s' := by
  obtain ⟨ho, hg, kp⟩ := k
  obtain ⟨h', g', d', t', o'⟩ := s'
  have e : o' = s.os := ho
  subst e
  refine I.step (g' := g') (d' := d') (t' := t') (ch := []) (fun _ z => nomatch z) (fun b o _ _ _ e _ => kp b o e) (fun b o _ _ _ e _ => ⟨o.slots, kp b o e⟩) (fun _ _ _ _ n => n) (fun b o _ e => ⟨o, kp b o e⟩)
    (fun _ _ q => q) (fun _ _ _ q => q) (fun b ps q => ⟨#[], by rw [q]; simp⟩) (fun m hm => hm.keeps kp) (I.hok.kept kp) hg
abbrev Cx.gen (X : Cx) (A' : Around) (s : Shared) (H : Hp) (genv : Env) (fp : List Addr) : Cx :=
  { X with A := A', s_0 := s, H_0 := H, env := genv, outer := X.stack, stack := genv :: X.stack, ex := fp, fn := fun _ => false, calm := true, pn := [], xe := fun _ _ => False }

section
variable {X : Cx} {pins : List (Addr × Obj)} {σ : L2.St} {H : Hp} {s : Shared}
theorem gen_start {A' : Around} {scope : Scope} {own : List (Str × Nat)} {fp : List Addr} {code : Value} {it : Addr} {h' : Heap} {go : Obj} {gs : GenState} {tk : Nat} (I : Inv X pins σ H s) (ok : GenOk X.N X.env.scope scope own) (hN : X.N.Nodup) (hfp : ∀ b ∈ fp, FpOk X pins H b ∧ b < s.heap.objs.size)
    (hh : A'.handled = none) (hfr : A'.frames = some (genEnv scope (cloFrom X.env.cells scope.names []) s.heap.objs.size code builtinsNs X.env :: X.stack))
    (hn' : h'.Ns s.heap.objs.size (fun y => if y = ".0" then some (.ref it) else none)) (hs' : Heap.SameBut s.heap.objs.size (s.heap.push { cls := .type "frame", data := .dict #[] }) h') (hgb : gs.bare = true) (hgo : ∀ v, go.data ≠ .cell v) (hgf : go.isFreed = false) :
    Inv (Cx.gen X A' s H (genEnv scope (cloFrom X.env.cells scope.names []) s.heap.objs.size code builtinsNs X.env) fp) [(h'.objs.size, go)] (wipe σ (own.map (·.2))) H { s with gens := s.gens.push gs, toks := tk, heap := h'.push go } := by
  have hfree : ∀ y ∈ scope.names, y.2 = .free → ∃ c, X.env.cells.lookup y.1 = some c := fun y hy e => by
    rcases ok.blk.free y hy e with k | k
    · exact I.ok.has _ (.inl k)
    · exact I.ok.has _ (.inr k)
  generalize hcenv : genEnv scope (cloFrom X.env.cells scope.names []) s.heap.objs.size code builtinsNs X.env = cenv at hfr ⊢
  have hsz : h'.objs.size = s.heap.objs.size + 1 := by rw [hs'.1, Heap.size_push]
  have kp0 : ∀ b o, s.heap.get? b = some o → h'.get? b = some o := fun b o e => hs'.extBut b o (Nat.ne_of_lt (Heap.lt_size e)) (Heap.get?_push_of_some _ e)
  have kp : ∀ b o, s.heap.get? b = some o → (h'.push go).get? b = some o := fun b o e => Heap.get?_push_of_some _ (kp0 b o e)
  have hL : cenv.locals = s.heap.objs.size := by rw [← hcenv]; rfl
  have hcl : cenv.cells = cloFrom X.env.cells scope.names [] := by rw [← hcenv]; rfl
  have hsc : cenv.scope = scope := by rw [← hcenv]; rfl
  have cm : ∀ {y c}, (y, c) ∈ cloFrom X.env.cells scope.names [] → X.env.cells.lookup y = some c ∧ c < s.heap.objs.size := fun {y c} hm => by
    rcases cloFrom_mem hm with hm | ⟨h1, rfl⟩
    · cases hm
    · obtain ⟨c, hc⟩ := hfree _ h1 rfl
      rw [hc]
      obtain ⟨w, z⟩ := I.cell _ _ hc
      exact ⟨rfl, z.lt⟩
  have mem : ∀ {y c}, cenv.cells.lookup y = some c → X.env.cells.lookup y = some c ∧ c < s.heap.objs.size := fun {y c} e => by
    rw [hcl] at e
    exact cm (PySem.mem_of_lookup e)
  have look : ∀ {y}, scope.names.lookup y = some .free → ∃ c, cenv.cells.lookup y = some c ∧ X.env.cells.lookup y = some c := fun {y} hl => by
    have hy : (y, NameKind.free) ∈ scope.names := PySem.mem_of_lookup hl
    obtain ⟨c', e'⟩ := mem_lookup (cloFrom_has (cells := X.env.cells) (acc := []) hy)
    rw [← hcl] at e'
    exact ⟨c', e', (mem e').1⟩
  have okB : (Cx.gen X A' s H cenv fp).Ok := by
    refine ⟨I.ok.mod, by show cenv.scope.kind = _; rw [hsc]; exact ok.blk.kind, by show cenv.globals = _; rw [← hcenv]; exact I.ok.glob, by show cenv.builtins = _; rw [← hcenv]; rfl, by show s.heap.objs.size ≤ cenv.locals; rw [hL]; exact Nat.le_refl _,
      fun y z c e1 e2 => I.ok.inj y z c (mem e1).1 (mem e2).1, fun y hy => ?_, fun y c z e => (nomatch z), fun _ => hh, hfr, .inr ⟨rfl, by show cenv.frame = some cenv.locals; rw [← hcenv]; rfl⟩, fun b hb => ⟨?_, fun y c e z => ?_⟩, I.bs, Nat.le_trans I.ok.bsz I.sz, fun b o e hb => ?_, fun b hb z => ?_, I.stack, I.stkFree⟩
    · show ∃ c, cenv.cells.lookup y = some c
      have key : ∀ k, cenv.kindOf y = some k → (k = .cell ∨ k = .free) → ∃ c, cenv.cells.lookup y = some c := fun k hk hk' => by
        unfold Env.kindOf at hk
        rw [hsc] at hk
        rcases hk' with rfl | rfl
        · exact absurd rfl (ok.cell _ (PySem.mem_of_lookup hk))
        · obtain ⟨c, h1, _⟩ := look hk
          exact ⟨c, h1⟩
      rcases hy with hy | hy
      · exact key _ hy (.inl rfl)
      · exact key _ hy (.inr rfl)
    · show b ≠ cenv.locals
      rw [hL]; exact Nat.ne_of_lt (hfp b hb).2
    · exact (hfp b hb).1.2.2.2.2.1 y c (mem e).1 z
    · rcases (hfp b hb).1.2.2.2.1 with z | z
      · exact I.ok.noex b o e z
      · exact absurd (Nat.lt_of_lt_of_le (Heap.lt_size e) (Nat.le_trans I.ok.bsz z)) (Nat.lt_irrefl _)
    · rcases List.mem_cons.mp (I.stkSub b z) with z | z
      · exact (hfp b hb).1.2.1 z
      · exact (hfp b hb).1.2.2.1 z
  refine ⟨okB, rfl, AllBare.push I.bare hgb, Un.kept kp, ⟨fun y => if y = ".0" then some (.ref it) else none, ?_, fun i y av e1 e2 e3 => ?_⟩, fun y c e => ?_, ?_, fun y c e => I.freeC y c (mem e).1, fun p hp => ?_, I.hok.kept kp, by rw [wipe_length]; exact I.len⟩
  · show Heap.Ns _ cenv.locals _
    rw [hL]
    exact hn'.push _
  · obtain ⟨e2, hne⟩ := wipe_some e2
    have hfr : scope.names.lookup y = some .free := by
      have key : ∀ k, cenv.scope.names.lookup y = some k → k = .local ∨ k = .cell ∨ k = .free → scope.names.lookup y = some .free := fun k hk hk' => by
        rw [hsc] at hk
        have no : ¬ (k = .local ∨ k = .cell) := fun hh => by
          rcases ok.blk.own _ (PySem.mem_of_lookup hk) hh with e' | e'
          · obtain ⟨p, hp, hpy⟩ := List.mem_map.mp e'
            have e3 := ok.blk.ix p hp
            have : p.1 = y := hpy
            rw [this] at e3
            exact hne (List.mem_map.mpr ⟨p, hp, nodup_ix hN e3 e1⟩)
          · exact e' (List.mem_of_getElem? e1)
        rcases hk' with rfl | rfl | rfl
        · exact absurd (.inl rfl) no
        · exact absurd (.inr rfl) no
        · exact hk
      have e3 : Vis cenv.scope y := e3
      rcases e3 with e3 | e3 | e3
      · exact key _ e3 (.inl rfl)
      · exact key _ e3 (.inr (.inl rfl))
      · exact key _ e3 (.inr (.inr rfl))
    obtain ⟨m, hn, hl⟩ := I.loc
    have hvis : Vis X.env.scope y := (ok.blk.free _ (PySem.mem_of_lookup hfr) rfl).elim (fun k => .inr (.inl k)) (fun k => .inr (.inr k))
    obtain ⟨w, r, q⟩ := hl i y av e1 e2 hvis
    refine ⟨w, r, .inr ⟨.inr (by show cenv.scope.names.lookup y = _; rw [hsc]; exact hfr), ?_⟩⟩
    obtain ⟨c, h1, h2⟩ := look hfr
    rcases q with ⟨k, _⟩ | ⟨_, c', e', z⟩
    · have k : X.env.scope.names.lookup y = some .local := k
      rcases ok.blk.free _ (PySem.mem_of_lookup hfr) rfl with k' | k' <;> rw [show X.env.scope.names.lookup y = _ from k'] at k <;> cases k
    · rw [h2] at e'; cases e'
      exact ⟨c, h1, z.keeps kp⟩
  · obtain ⟨w, z⟩ := I.cell y c (mem e).1
    exact ⟨w, z.keeps kp⟩
  · show H cenv.locals = none
    rw [hL]; exact I.hok.fresh (Nat.le_refl _)
  · have e : p = (h'.objs.size, go) := by simpa using hp
    subst e
    refine ⟨Heap.get?_push_size _ hgf, I.hok.fresh (by rw [hsz]; exact Nat.le_succ _), ?_, ?_, hgo⟩
    · show h'.objs.size ≠ cenv.locals
      rw [hL, hsz]; exact Nat.succ_ne_self _
    · show h'.objs.size ∉ frs X.stack
      intro z
      have q : h'.objs.size ∉ X.env.locals :: X.fs := by
        intro w
        rcases List.mem_cons.mp w with w | w
        · have h1 := I.lt
          rw [← w, hsz] at h1
          exact absurd h1 (Nat.not_lt_of_le (Nat.le_succ _))
        · exact I.nofs (by rw [hsz]; exact Nat.le_succ _) w
      exact q (I.stkSub _ z)
end

def GYp (Y : Cx) (pa : List (Addr × Obj)) (σ : L2.St) (a : Addr) (g : Nat) (sw : Bool) (Out : Hp → Prop) : Protocol := fun _ _ v s kap =>
  ∃ b, v = .bool b ∧ s.heap.IsGen a g ∧ s.heap.NoLimit ∧ AllBare s.gens ∧ s.os = Y.s_0.os ∧ (if b = sw then ∀ s', Kpt s s' → kap (.send .none) s' else ∃ H', L2.Inv Y pa σ H' s ∧ Out H')
def GRp (Y : Cx) (pa : List (Addr × Obj)) (σ : L2.St) (Fin : Hp → Prop) : GenEnd := fun _ _ r s => r = .ok .next ∧ ∃ H', L2.Inv Y pa σ H' s ∧ Fin H'
section
variable {Y : Cx} {A : Around} {elt tg iter : Expr} {scope : Scope} {pos : Pos} {it a : Addr} {g : Nat} {fp : List Addr} {tn : Nat → Heap → Prop} {J : It} {pa : List (Addr × Obj)} {gg : TG} {te : TE} {σ : L2.St} {vs : List Nat} {sw : Bool} {Out Fin : Hp → Prop} {W : Nat → Nat → Hp → Prop}
theorem seg_gl (hov : A.over (.compLoop (.GeneratorExp elt [⟨tg, iter, [], 0⟩] scope pos) 0 (.ref it) .none Y.env) [] = Y.A) (hx : Y.xe = fun _ _ => False) (hc : Y.calm = true) (hco : Y.env.scope.isCoroutine = false) (hpn : Y.pn = [])
    (T : Turn Y.prog Y.w Y.K tg J fp it tn) (hfp : ∀ b ∈ fp, b ∈ Y.ex) (hpa : ∀ p ∈ pa, p.1 ∉ fp) (hgen : ∀ s H σ, L2.Inv Y pa σ H s → s.heap.IsGen a g) (pg : PG Y tg gg) (pe : PE Y elt te)
    (turn : ∀ i m H, W i m H → (J.stop i H ∧ Fin H) ∨ (J.go i H ∧ ∃ Nx : Hp → Prop, (∀ H', Nx H' → ∃ m', m' < m ∧ W (i + 1) m' H') ∧ ∀ x H', J.yld i H x H' → gg x (wipe σ vs) H' fun σ2 H2 => wipe σ2 vs = wipe σ vs ∧ te σ2 H2 fun v H3 => ∃ b, v = .bl b ∧ if b = sw then Nx H3 else Out H3)) :
    ∀ (n i m : Nat) (s₀ s : Shared) (H : Hp), m < n → W i m H → L2.Inv Y pa (wipe σ vs) H s → tn i s.heap → (∀ b ∈ fp, H b = none) →
      Seg (model Y.prog Y.w) A (GRp Y pa (wipe σ vs) Fin) (GYp Y pa (wipe σ vs) a g sw Out) n s₀ (.compLoop (.GeneratorExp elt [⟨tg, iter, [], 0⟩] scope pos) 0 (.ref it) .none Y.env)
        ((model Y.prog Y.w).den (.compLoop (.GeneratorExp elt [⟨tg, iter, [], 0⟩] scope pos) 0 (.ref it) .none Y.env)) [] s := by
  intro n
  induction n with
  | zero => intro i m s₀ s H h; exact absurd h (Nat.not_lt_zero _)
  | succ n ih =>
    intro i m s₀ s H hm w I st nf
    have stat : ∀ {σ' : L2.St} {H' : Hp} {s' : Shared}, L2.Inv Y pa σ' H' s' → (∀ b ∈ fp, H' b = none) → ∀ b ∈ fp, FpOk Y pa H' b := fun {σ' H' s'} I' hn b hb =>
      ⟨hn b hb, (I'.ok.exf b (hfp b hb)).1, I'.ok.exfs b (hfp b hb), .inl (hfp b hb), fun x c e => (I'.ok.exf b (hfp b hb)).2 x c e, fun p hp => by
        rw [hpn, List.nil_append] at hp
        exact fun e => hpa p hp (e ▸ hb)⟩
    have noE : ∀ {P : Prop} {e : Value} {s : Shared}, Y.xe e s → P := fun {P e s} h => by rw [hx] at h; exact h.elim
    show Seg _ A _ _ _ s₀ _ ((compTurn (.GeneratorExp elt [⟨tg, iter, [], 0⟩] scope pos) 0 (.ref it) .none Y.env).onRaise (leaving Y.env)) [] s
    rw [compTurn_gen, Sem.onRaise_eq_wrap]
    refine seg_bind_wrap ?_
    rw [hov]
    refine wpAny_standAt ?_
    rcases turn i m H w with ⟨stop, qq⟩ | ⟨go, Nx, hNx, step⟩
    · have td := T.done Y rfl rfl rfl hc i pa s _ H (fun _ _ => False) I (stat I nf) st stop
      refine seg_bind_wrap ?_
      rw [hov]
      refine wpAny_mono td (fun r s1 ⟨hr, I1⟩ => ?_) fun _ _ z => z.elim
      subst hr
      exact seg_end (.ok .next) ⟨rfl, H, I1, qq⟩
    · have ti := T.item Y rfl rfl rfl hc i pa s _ H (fun _ _ => False) I (stat I nf) st go
      refine seg_bind_wrap ?_
      rw [hov]
      refine wpAny_mono ti (fun r s1 ⟨u, hr, h1⟩ => ?_) fun _ _ z => z.elim
      subst hr
      refine seg_bind_wrap ?_
      rw [hov]
      refine wpAny_mono h1 (fun _ s2 ⟨x, H2, I2, r2, y2, st2, n2⟩ => ?_) fun _ _ z => z.elim
      have I2' := I2.pinned (stat I2 n2) (T.obj _ _ st2)
      refine seg_bind_wrap ?_
      rw [hov]
      refine wpAny_mono (pg.run _ s2 _ H2 x u _ I2' r2 (step x H2 y2)) (fun _ s3 ⟨σ3, H3, I3, hw3, q3⟩ => ?_) fun _ _ z => noE z
      refine seg_bind_wrap ?_
      simp only [List.forIn_nil]
      refine wpAny_pure ?_
      simp only [if_true]
      have hy : ∀ v, yieldOut Y.env v = yieldValue v := fun v => by simp only [yieldOut, hco, Bool.false_eq_true, if_false]
      simp only [hy]
      rw [Sem.bind_eq_wrap', Sem.bind_eq_wrap', Sem.wrap_wrap, Sem.wrap_wrap]
      refine seg_wrap ?_
      rw [hov]
      refine wpAny_mono (pe.run _ s3 σ3 H3 _ I3 q3) (fun v s4 ⟨vv, H4, I4, r4, b, ev, q4⟩ => ?_) fun _ _ z => noE z
      subst ev
      obtain rfl : v = .bool b := r4
      have hl : (wipe σ vs).length = σ3.length := by rw [← hw3, wipe_length]
      have pin' : ∀ b ∈ fp, ∀ o, s2.heap.get? b = some o → s4.heap.get? b = some o ∧ H4 b = none := fun b hb o e =>
        let z := I4.pin (b, o) (List.mem_append_right _ (List.mem_append_right _ (mem_pinsAt hb e)))
        ⟨z.1, z.2.1⟩
      have I5 : L2.Inv Y pa (wipe σ vs) H4 s4 := (I4.unpinned).weak hl fun j v e => by
        rw [← hw3] at e
        exact (wipe_some e).1
      refine seg_at (seg_yield rfl rfl rfl ⟨b, rfl, hgen _ _ _ I5, I5.nolimit, I5.bare, I5.os, ?_⟩)
      by_cases hb : b = sw
      · rw [if_pos hb] at q4 ⊢
        obtain ⟨m', hm', w'⟩ := hNx H4 q4
        intro s' k
        refine seg_again rfl (ih (i + 1) m' s' s' H4 (by omega) w' (I5.kpt k) ?_ fun b hb => ?_)
        · exact T.keep _ _ _ (T.keep _ _ _ st2 fun b hb o e => (pin' b hb o e).1) fun b _ o e => k.2.2 b o e
        · obtain ⟨o, e, _⟩ := T.obj _ _ st2 b hb
          exact (pin' b hb o e).2
      · rw [if_neg hb] at q4 ⊢
        exact ⟨H4, I5, q4⟩
end

section
variable {Y : Cx} {A : Around} {elt tg iter : Expr} {scope : Scope} {pos : Pos} {it a : Addr} {g : Nat} {fp : List Addr} {tn : Nat → Heap → Prop} {J : It} {R : GenEnd} {Yp : Protocol}
theorem seg_st {n : Nat} {s₀ s : Shared} (hov : A.over (.compStart (.GeneratorExp elt [⟨tg, iter, [], 0⟩] scope pos) 0 (.ref it) .none Y.env) [] = Y.A) (T : Turn Y.prog Y.w Y.K tg J fp it tn) (st : tn 0 s.heap)
    (loop : Seg (model Y.prog Y.w) A R Yp n s₀ (.compLoop (.GeneratorExp elt [⟨tg, iter, [], 0⟩] scope pos) 0 (.ref it) .none Y.env) ((model Y.prog Y.w).den (.compLoop (.GeneratorExp elt [⟨tg, iter, [], 0⟩] scope pos) 0 (.ref it) .none Y.env)) [] s) :
    Seg (model Y.prog Y.w) A R Yp n s₀ (.compStart (.GeneratorExp elt [⟨tg, iter, [], 0⟩] scope pos) 0 (.ref it) .none Y.env) ((model Y.prog Y.w).den (.compStart (.GeneratorExp elt [⟨tg, iter, [], 0⟩] scope pos) 0 (.ref it) .none Y.env)) [] s := by
  show Seg _ A _ _ _ s₀ _ ((compStart (.GeneratorExp elt [⟨tg, iter, [], 0⟩] scope pos) 0 (.ref it) .none Y.env).onRaise (leaving Y.env)) [] s
  unfold compStart
  rw [Sem.onRaise_eq_wrap]
  show Seg _ A _ _ _ s₀ _ ((ask >>= _).wrap _ _ _ _) [] s
  refine seg_bind_wrap (wpAny_askSetting ?_)
  split
  · exact seg_again rfl loop
  · refine seg_bind_wrap (wpAny_rule ?_)
    refine seg_bind_wrap (wpAny_standAt ?_)
    refine seg_bind_wrap ?_
    rw [hov]
    exact T.self Y.A 0 s _ _ st (seg_again rfl loop)
end

def AtG (P : Program) (w : World) (A : Around) (R : GenEnd) (Yp : Protocol) (a : Addr) (g n : Nat) (s : Shared) : Prop :=
  s.heap.IsGen a g ∧ s.heap.NoLimit ∧ AllBare s.gens ∧ ∃ gs, s.gens[g]? = some gs ∧ gs.Goes (model P w) A.in1 R Yp n (.send .none) (s.setGen g .running)
section
variable {Y : Cx} {A : Around} {a : Addr} {g : Nat} {pa : List (Addr × Obj)} {σ : L2.St} {sw : Bool} {Out Fin : Hp → Prop} {R : Result → Shared → Prop}
theorem next_g {n : Nat} {s : Shared} {Q : Option Value → Shared → Prop} {E : Value → Shared → Prop} (hh : A.handled = none) (hd : A.depth < recursionLimit) (st : AtG Y.prog Y.w A (GRp Y pa σ Fin) (GYp Y pa σ a g sw Out) a g n s)
    (hgo : ∀ s', n = 0 → False → Q (some (.bool sw)) s') (hon : ∀ m s', n = m + 1 → AtG Y.prog Y.w A (GRp Y pa σ Fin) (GYp Y pa σ a g sw Out) a g m s' → Q (some (.bool sw)) s') (hout : ∀ s1 s' H', L2.Inv Y pa σ H' s1 → Out H' → Kpt s1 s' → Q (some (.bool !sw)) s')
    (hfin : ∀ s1 s' H', L2.Inv Y pa σ H' s1 → Fin H' → Kpt s1 s' → Q none s') : wpAny (model Y.prog Y.w) A (pyNext (.ref a)) Q E s := by
  obtain ⟨hg, hl, hb, gs, hgs, hgoes⟩ := st
  have hgl : g < s.gens.size := (Array.getElem?_eq_some_iff.mp hgs).1
  refine wpAny_gsz (n := g + 1) hgl (wpAny_pyNext_genexpQ (P := fun _ _ s => ∃ H', L2.Inv Y pa σ H' s ∧ Fin H') hh hl hd hg hgs hgoes (fun v s₁ gs' hbare hv => ?_) fun s₁ hp h' hk => ?_)
  · intro hsz
    obtain ⟨b, rfl, hg1, hl1, hb1, ho1, h⟩ := hv
    have hsz1 : g < s₁.gens.size := by
      have q : (s₁.setGen g gs').gens.size = s₁.gens.size := setGen_size _ _ _
      have hsz' : g + 1 ≤ (s₁.setGen g gs').gens.size := hsz
      omega
    by_cases e : b = sw
    · subst e
      rw [if_pos rfl] at h
      cases n with
      | zero => exact (h s₁ ⟨rfl, hb1, fun _ _ e => e⟩).elim
      | succ m =>
        refine hon m _ rfl ⟨hg1, hl1, allBare_setGen hb1 hbare, gs', setGen_at hsz1, ?_⟩
        exact h _ ⟨rfl, allBare_setGen (s := s₁.setGen g gs') (allBare_setGen hb1 hbare) rfl, fun _ _ e => e⟩
    · rw [if_neg e] at h
      obtain ⟨H', I', q⟩ := h
      have eb : b = !sw := by cases b <;> cases sw <;> simp_all
      subst eb
      exact hout s₁ _ H' I' q ⟨rfl, allBare_setGen hb1 hbare, fun _ _ e => e⟩
  · intro hsz
    obtain ⟨H', I', q⟩ := hp
    exact hfin s₁ _ H' I' q ⟨rfl, allBare_setGen I'.bare rfl, hk⟩
theorem all_gl (hh : A.handled = none) (hd : A.depth < recursionLimit) (hout : ∀ s1 s' H', L2.Inv Y pa σ H' s1 → Out H' → Kpt s1 s' → R (.ok (.ret (.bool false))) s') (hfin : ∀ s1 s' H', L2.Inv Y pa σ H' s1 → Fin H' → Kpt s1 s' → R (.ok (.ret (.bool true))) s') :
    ∀ (n : Nat) (s : Shared), AtG Y.prog Y.w A.in1 (GRp Y pa σ Fin) (GYp Y pa σ a g true Out) a g n s → codeAny (model Y.prog Y.w) A (.builtin "all.loop" ⟨[.ref a], []⟩) R s := by
  intro n
  induction n with
  | zero =>
    intro s st
    refine codeAny_builtin F.entry_all_loop ?_
    rw [Around.under_plainId F.plain_all_loop _]
    show wpAny _ A.in1 (pyNext (.ref a) >>= _) _ _ s
    refine wpAny_bind (next_g (A := A.in1) hh hd st (fun s' _ z => z.elim) (fun m s' e => (nomatch e)) (fun s1 s' H' I' q k => ?_) fun s1 s' H' I' q k => ?_)
    · refine wpAny_bind (wpAny_holding (wpAny_truthy_bool (wpAny_bind (wpAny_letGo ?_))))
      exact wpAny_bind (wpAny_rule (wpAny_pure (hout s1 s' H' I' q k)))
    · exact wpAny_bind (wpAny_rule (wpAny_pure (hfin s1 s' H' I' q k)))
  | succ n ih =>
    intro s st
    refine codeAny_builtin F.entry_all_loop ?_
    rw [Around.under_plainId F.plain_all_loop _]
    show wpAny _ A.in1 (pyNext (.ref a) >>= _) _ _ s
    refine wpAny_bind (next_g (A := A.in1) hh hd st (fun s' _ z => z.elim) (fun m s' e st' => ?_) (fun s1 s' H' I' q k => ?_) fun s1 s' H' I' q k => ?_)
    · cases e
      refine wpAny_bind (wpAny_holding (wpAny_truthy_bool (wpAny_bind (wpAny_letGo ?_))))
      exact wpAny_pure ⟨plainId_quiet F.plain_all_loop _, ih s' st'⟩
    · refine wpAny_bind (wpAny_holding (wpAny_truthy_bool (wpAny_bind (wpAny_letGo ?_))))
      exact wpAny_bind (wpAny_rule (wpAny_pure (hout s1 s' H' I' q k)))
    · exact wpAny_bind (wpAny_rule (wpAny_pure (hfin s1 s' H' I' q k)))
end
end ML


namespace ML
open PySem PySem.Spec PyProof.Rows L2 GenW GxR

structure GenA (X : Cx) (A' : Around) : Prop where
  hd : A'.handled = none
  gd : A'.guards = X.A.guards
  dp : A'.depth ≤ X.A.depth + 1
  un : A'.units ≤ X.A.units + 8
def AllGen (X : Cx) (scope : Scope) (J : Cx → Prop) : Prop := ∀ (A' : Around) (s : Shared) (H : Hp) (cl : List (Str × Addr)) (C : Addr) (code : Value) (fp : List Addr), GenA X A' → J (Cx.gen X A' s H (genEnv scope cl C code builtinsNs X.env) fp)
structure TabX (P : Addr) (H H' : Hp) : Prop where
  tg : TabG H' P
  off : ∀ b, b ≠ P → H' b = H b
  up : ∀ ps, H P = some (.tbl ps) → ∃ more, H' P = some (.tbl (ps ++ more))
def tAllG (P : Addr) (sw : Bool) (wi : TI) (gg : TG) (te : TE) (vs : List Nat) : TE := fun σ H Q => wi σ H fun J H1 => TabG H1 P ∧ ∀ H2, TabX P H1 H2 → ∃ W : Nat → Nat → Hp → Prop, (∃ m, W 0 m H2) ∧ ∀ i m H, W i m H →
  (J.stop i H ∧ Q (.bl sw) H) ∨ (J.go i H ∧ ∃ Nx : Hp → Prop, (∀ H', Nx H' → ∃ m', m' < m ∧ W (i + 1) m' H') ∧ ∀ x H', J.yld i H x H' → gg x (wipe σ vs) H' fun σ2 H2 => wipe σ2 vs = wipe σ vs ∧ te σ2 H2 fun v H3 => ∃ b, v = .bl b ∧ if b = sw then Nx H3 else Q (.bl !sw) H3)
section
variable {X : Cx} {pins : List (Addr × Obj)} {σ : L2.St} {H : Hp} {s : Shared}
theorem gen_core {c P : Addr} {elt tg iter : Expr} {gpos : Pos} {scope : Scope} {own : List (Str × Nat)} {wi : TI} {gg : TG} {te : TE} {k : Nat} {sw : Bool} {Q : VK} {Q' : Value → Shared → Prop}
    (hr : Room k X.A) (hN : X.N.Nodup) (TB : TabB X.base X.mg c P) (hcode : X.env.code = .ref c) (ok : GenOk X.N X.env.scope scope own) (hi : PI X tg iter wi)
    (hg : AllGen X scope fun Y => PG Y tg gg) (he : AllGen X scope fun Y => PE Y elt te)
    (hs : ∀ v, genFold iter X.env v = pure v) (I : L2.Inv X pins σ H s) (h : tAllG P sw wi gg te (own.map (·.2)) σ H Q)
    (hQ : ∀ (Y : Cx) (pa : List (Addr × Obj)) (σ' : L2.St) (a : Addr) (g n : Nat) (s5 : Shared) (Fin Out : Hp → Prop), Y.prog = X.prog → Y.w = X.w → (∀ s1 s' H', L2.Inv Y pa σ' H' s1 → Fin H' → Kpt s1 s' → EP X pins σ Q (.bool sw) s') → (∀ s1 s' H', L2.Inv Y pa σ' H' s1 → Out H' → Kpt s1 s' → EP X pins σ Q (.bool !sw) s') →
      AtG Y.prog Y.w X.A.in1 (GRp Y pa σ' Fin) (GYp Y pa σ' a g sw Out) a g n s5 → Q' (.ref a) s5) :
    wpAny (model X.prog X.w) X.A (eval (.GeneratorExp elt [⟨tg, iter, [], 0⟩] scope gpos) X.env) Q' X.xe s := by
  have hfree : ∀ y ∈ scope.names, y.2 = .free → ∃ c, X.env.cells.lookup y.1 = some c := fun y hy e => by
    rcases ok.blk.free y hy e with k | k
    · exact I.ok.has _ (.inl k)
    · exact I.ok.has _ (.inr k)
  refine wpAny_GeneratorExp_make ok.co (closure_ok hfree) ok.cell ok.dot ok.blk.kind (by have := hr.dp; omega) ?_ hs
  refine thn (hi.run pins s σ H _ I h) fun xv s1 h1 => thn h1 fun itv s2 h2 => ?_
  obtain ⟨it, fp, tn, J, H1, e, I2, T, st2, f2, ⟨ps, hP, htp⟩, q⟩ := h2
  subst e
  have hPs : s2.heap.get? P = some { cls := .none, data := .fields ps } := I2.hok P _ hP
  have cd : PySem.W.CodeHd s2.heap c P := TB.code.keeps fun b u e => I2.bk b u e
  -- behind the code object
  have cont : ∀ (code : Value) (h3 : Heap) (tk : Nat) (ps' : Array Value), Heap.ExtBut P s2.heap h3 → s2.heap.objs.size ≤ h3.objs.size → h3.get? P = some { cls := .none, data := .fields ps' } → (∃ more, ps' = ps ++ more) → TriplesOk ps'.toList →
      wpAny (model X.prog X.w) X.A (builtinsFor X.env.globals X.env.builtins) (fun bi s₄ => ∀ h', h'.Ns s₄.heap.objs.size (fun y => if y = ".0" then some (.ref it) else none) → Heap.SameBut s₄.heap.objs.size (s₄.heap.push { cls := .type "frame", data := .dict #[] }) h' →
          Q' (.ref h'.objs.size) { s₄ with
            gens := s₄.gens.push (.fresh (.compStart (.GeneratorExp elt [⟨tg, iter, [], 0⟩] scope gpos) 0 (.ref it) .none (genEnv scope (cloFrom X.env.cells scope.names []) s₄.heap.objs.size code bi X.env))),
            toks := s₄.toks + 1 + 1 + 1,
            heap := h'.push { cls := .type "generator", data := .fields #[.int s₄.gens.size 0, .str "<genexpr>" (s₄.toks + 1), .str (X.env.qual ++ "<genexpr>") (s₄.toks + 1 + 1)] } }) X.xe { s2 with heap := h3, toks := tk } := by
    intro code h3 tk ps' hx hsz hP3 hmore ht3
    obtain ⟨bm, ob, e1, e2, e3, e4, e5, e6, e7, e8⟩ := TB.bm
    obtain ⟨more, em⟩ := hmore
    have J3 := inv_tab (more := more) (h' := h3) (g' := s2.gens) (d' := s2.drawn) (t' := tk) I2 hP (fun b u hb e => hx b u hb e) (by rw [← em]; exact hP3) I2.bare
    generalize hH3 : upd H1 P (.tbl (ps ++ more)) = H3 at J3
    have tb3 : TabX P H1 H3 := by
      subst hH3
      exact ⟨⟨ps ++ more, upd_same, by rw [← em]; exact ht3⟩, fun b hb => upd_ne hb, fun qs e => by rw [hP] at e; cases e; exact ⟨more, upd_same⟩⟩
    generalize hs3 : ({ s2 with heap := h3, toks := tk } : Shared) = s3
    have I3 : L2.Inv X pins σ H3 s3 := by rw [← hs3]; exact J3
    have h3e : s3.heap = h3 := by rw [← hs3]
    have sz : ∀ b ∈ fp, b < s2.heap.objs.size := fun b hb => by
      obtain ⟨o, e, _⟩ := T.obj _ _ st2 b hb
      exact Heap.lt_size e
    have bP : ∀ b ∈ fp, b ≠ P := fun b hb z => by
      have := (f2 b hb).1
      rw [z, hP] at this
      cases this
    have f3 : ∀ b ∈ fp, FpOk X pins H3 b ∧ b < s3.heap.objs.size := fun b hb => by
      refine ⟨⟨?_, (f2 b hb).2⟩, by rw [h3e]; exact Nat.lt_of_lt_of_le (sz b hb) hsz⟩
      rw [tb3.off b (bP b hb)]
      exact (f2 b hb).1
    have st3 : tn 0 s3.heap := T.keep _ _ _ st2 fun b hb o e => by rw [h3e]; exact hx b o (bP b hb) e
    have glob3 : s3.heap.Ns X.env.globals X.mg := by rw [I3.ok.glob]; exact I3.mod.glob.keeps I3.bk
    refine wpAny_builtinsFor (m := X.mg) glob3 e1 e2 (I3.bk _ _ e5 : s3.heap.get? bm = some ob) e6 e7 e8 ?_
    intro h' hn' hs'
    generalize hgs : GenState.fresh (.compStart (.GeneratorExp elt [⟨tg, iter, [], 0⟩] scope gpos) 0 (.ref it) .none (genEnv scope (cloFrom X.env.cells scope.names []) s3.heap.objs.size code builtinsNs X.env)) = gs
    generalize hgo : ({ cls := .type "generator", data := .fields #[.int s3.gens.size 0, .str "<genexpr>" (s3.toks + 1), .str (X.env.qual ++ "<genexpr>") (s3.toks + 1 + 1)] } : Obj) = go
    have hov : ∀ c' : Code, c' = .compLoop (.GeneratorExp elt [⟨tg, iter, [], 0⟩] scope gpos) 0 (.ref it) .none (genEnv scope (cloFrom X.env.cells scope.names []) s3.heap.objs.size code builtinsNs X.env) ∨ c' = .compStart (.GeneratorExp elt [⟨tg, iter, [], 0⟩] scope gpos) 0 (.ref it) .none (genEnv scope (cloFrom X.env.cells scope.names []) s3.heap.objs.size code builtinsNs X.env) →
        X.A.in1.in1.over c' [] = ⟨X.A.handled, X.A.depth + 1, some (genEnv scope (cloFrom X.env.cells scope.names []) s3.heap.objs.size code builtinsNs X.env :: X.stack), X.A.guards, X.A.units + 5⟩ := by
      have fr := I3.ok.frames
      intro c' hc'
      rcases hc' with rfl | rfl
      · simp [Around.over, marksOver, frameCount, unitsOf, envsOf, guardsOf, pushEnvs, pushGuards, Code.envs, Code.env?, Code.isFrame, Code.guards, Code.isGuard, Code.weight, Code.frames, Code.isCreation, Code.isCaller, Code.cUnits, Around.in1, fr]
      · simp [Around.over, marksOver, frameCount, unitsOf, envsOf, guardsOf, pushEnvs, pushGuards, Code.envs, Code.env?, Code.isFrame, Code.guards, Code.isGuard, Code.weight, Code.frames, Code.isCreation, Code.isCaller, Code.cUnits, Around.in1, fr]
    have hh : X.A.handled = none := hr.hd
    generalize hA' : (⟨X.A.handled, X.A.depth + 1, some (genEnv scope (cloFrom X.env.cells scope.names []) s3.heap.objs.size code builtinsNs X.env :: X.stack), X.A.guards, X.A.units + 5⟩ : Around) = A' at hov
    have ga : GenA X A' := by subst hA'; exact ⟨hh, rfl, Nat.le_refl _, by show X.A.units + 5 ≤ _; omega⟩
    have I5 := gen_start (A' := A') (code := code) (it := it) (go := go) (gs := gs) (tk := s3.toks + 1 + 1 + 1) I3 ok hN f3 (by subst hA'; exact hh) (by subst hA'; rfl) hn' hs' (by subst hgs; rfl) (by subst hgo; intro v z; cases z) (by subst hgo; rfl)
    have pg := hg A' s3 H3 (cloFrom X.env.cells scope.names []) s3.heap.objs.size code fp ga
    have pe := he A' s3 H3 (cloFrom X.env.cells scope.names []) s3.heap.objs.size code fp ga
    obtain ⟨W, ⟨m0, w0⟩, turn⟩ := q H3 tb3
    have hgg : (s3.gens.push gs)[s3.gens.size]? = some gs := Array.getElem?_push_size ..
    have hgi : ∀ (s' : Shared) (H' : Hp) (σ' : L2.St), L2.Inv (Cx.gen X A' s3 H3 (genEnv scope (cloFrom X.env.cells scope.names []) s3.heap.objs.size code builtinsNs X.env) fp) [(h'.objs.size, go)] σ' H' s' → s'.heap.IsGen h'.objs.size s3.gens.size := fun s' H' σ' I' => by
      have := (I'.pin (h'.objs.size, go) (by simp)).1
      subst hgo
      exact ⟨_, _, _, this, rfl, rfl, rfl⟩
    have back : ∀ {s1 s' : Shared} {σ' : L2.St} {H' : Hp}, L2.Inv (Cx.gen X A' s3 H3 (genEnv scope (cloFrom X.env.cells scope.names []) s3.heap.objs.size code builtinsNs X.env) fp) [(h'.objs.size, go)] σ' H' s1 → Kpt s1 s' → L2.Inv X pins σ H' s' := fun {s1 s' σ' H'} I' k => by
      obtain ⟨ko, kg, kk⟩ := k
      exact I3.call' (ch := fp) (ko.trans I'.os) (I'.base.trans (Un.kept kk)) (I'.hok.kept kk) kg fun b hb => ⟨(f3 b hb).1.2.2.2.1, (f3 b hb).1.2.1, (f3 b hb).1.2.2.2.2.1, (f3 b hb).1.2.2.2.2.2⟩
    refine hQ (Cx.gen X A' s3 H3 (genEnv scope (cloFrom X.env.cells scope.names []) s3.heap.objs.size code builtinsNs X.env) fp) [(h'.objs.size, go)] (wipe σ (own.map (·.2))) h'.objs.size s3.gens.size (m0 + 1) _ (fun H' => Q (.bl sw) H') (fun H' => Q (.bl !sw) H') rfl rfl
      (fun s1 s' H' I' qq k => ⟨.bl sw, H', back I' k, rfl, qq⟩) (fun s1 s' H' I' qq k => ⟨.bl !sw, H', back I' k, rfl, qq⟩) ⟨hgi _ _ _ I5, I5.nolimit, I5.bare, gs, hgg, ?_⟩
    subst hgs
    have kS : Kpt ({ s3 with gens := s3.gens.push (.fresh (.compStart (.GeneratorExp elt [⟨tg, iter, [], 0⟩] scope gpos) 0 (.ref it) .none (genEnv scope (cloFrom X.env.cells scope.names []) s3.heap.objs.size code builtinsNs X.env))), toks := s3.toks + 1 + 1 + 1, heap := h'.push go } : Shared)
        (({ s3 with gens := s3.gens.push (.fresh (.compStart (.GeneratorExp elt [⟨tg, iter, [], 0⟩] scope gpos) 0 (.ref it) .none (genEnv scope (cloFrom X.env.cells scope.names []) s3.heap.objs.size code builtinsNs X.env))), toks := s3.toks + 1 + 1 + 1, heap := h'.push go } : Shared).setGen s3.gens.size .running) := ⟨rfl, allBare_setGen I5.bare rfl, fun _ _ e => e⟩
    have I6 := I5.kpt kS
    have st6 : tn 0 (h'.push go) := T.keep _ _ _ st3 fun b hb o e => Heap.get?_push_of_some _ (hs'.extBut b o (Nat.ne_of_lt (f3 b hb).2) (Heap.get?_push_of_some _ e))
    refine ⟨rfl, ?_⟩
    refine seg_st (Y := Cx.gen X A' s3 H3 (genEnv scope (cloFrom X.env.cells scope.names []) s3.heap.objs.size code builtinsNs X.env) fp) (A := X.A.in1.in1) (hov _ (.inr rfl)) T st6 ?_
    refine seg_gl (Y := Cx.gen X A' s3 H3 (genEnv scope (cloFrom X.env.cells scope.names []) s3.heap.objs.size code builtinsNs X.env) fp) (A := X.A.in1.in1) (hov _ (.inl rfl)) rfl rfl ok.co rfl T (fun b hb => hb) (fun p hp z => ?_) (fun s H σ I => hgi s H σ I) pg pe turn (m0 + 1) 0 m0 _ _ H3 (Nat.lt_succ_self _) w0 I6 st6 fun b hb => (f3 b hb).1.1
    have e : p = (h'.objs.size, go) := by simpa using hp
    subst e
    have := (f3 _ z).2
    have hz : h'.objs.size = s3.heap.objs.size + 1 := by rw [hs'.1, Heap.size_push]
    rw [hz] at this
    exact absurd this (Nat.not_lt_of_le (Nat.le_succ _))
  refine ⟨I2.nolimit, ?_⟩
  cases hf : codeAmong gpos ps.toList with
  | none =>
    refine wpAny_genexprCodeX hcode (cd.code hPs htp) (cd.tab hPs) hf fun c' h' tk hx hge hlt hco' _ htab' _ => ?_
    obtain ⟨o1, vs, f1, tf, fl, tg, inF, tx, tt, op, _, _, _, _, _, _, _, _, _, htr, _⟩ := hco'
    exact cont _ h' tk _ hx (Nat.le_trans hge (Nat.le_of_lt hlt)) htab'.2 ⟨_, rfl⟩ htr
  | some cv =>
    refine wpAny_genexprCode_hit hcode (cd.code hPs htp) hf ?_
    exact cont cv s2.heap s2.toks ps (Heap.ExtBut.refl _ _) (Nat.le_refl _) hPs ⟨#[], by simp⟩ htp
theorem pe_allG {c P : Addr} {elt tg iter : Expr} {p pos gpos : Pos} {scope : Scope} {own : List (Str × Nat)} {wi : TI} {gg : TG} {te : TE} {k : Nat} (hr : Room k X.A) (hN : X.N.Nodup) (hgl : Gl X "all") (hm : X.mg "all" = none) (TB : TabB X.base X.mg c P) (hcode : X.env.code = .ref c)
    (ok : GenOk X.N X.env.scope scope own) (hi : PI X tg iter wi) (hg : AllGen X scope fun Y => PG Y tg gg) (he : AllGen X scope fun Y => PE Y elt te) (hs : ∀ v, genFold iter X.env v = pure v := by intro _; rfl)
    (hst : starEach [.GeneratorExp elt [⟨tg, iter, [], 0⟩] scope gpos] X.env = (false, eval (.GeneratorExp elt [⟨tg, iter, [], 0⟩] scope gpos) X.env) :: starEach [] X.env := by rfl) :
    PE X (.Call (.Name "all" p) [.GeneratorExp elt [⟨tg, iter, [], 0⟩] scope gpos] [] pos) (tAllG P true wi gg te (own.map (·.2))) := by
  refine ⟨fun pins s σ H Q I h => ?_⟩
  refine wpAny_Call_Name_kw (ld_blt I hgl hm (by rfl) ?_)
  refine PyProof.Rows.callWith_builtin1 ?_ hst (by rfl)
  rw [hst]
  show wpAny _ _ (spliced ((false, eval (.GeneratorExp elt [⟨tg, iter, [], 0⟩] scope gpos) X.env) :: backTo pos (starEach [] X.env))) _ _ s
  refine Calls.spliced_cons (gen_core hr hN TB hcode ok hi hg he hs I h fun Y pa σ' a g n s5 Fin Out eP eW hfin hout st => ?_)
  refine Calls.spliced_nil ?_
  refine call_function_tree F.kind_all F.plain_all F.entry_all (F.args_all1 _) ?_
  unfold Builtin.«all»
  refine wpAny_bind (m := oneArg "all" _) (wpAny_pure ?_)
  refine wpAny_bind (wpAny_pyIter_gen st.1 ?_)
  rw [← eP, ← eW]
  refine wpAny_pure ⟨plainId_quiet F.plain_all_loop _, all_gl (Y := Y) (A := X.A) hr.hd (by have := hr.dp; omega) (fun s1 s' H' I' q k => ?_) (fun s1 s' H' I' q k => ?_) n s5 st⟩
  · exact hout s1 s' H' I' q k
  · exact hfin s1 s' H' I' q k
end
end ML


namespace ML
open PySem PySem.Spec PyProof.Rows L2
class Tabs where
  T : Addr → Prop

inductive D where
  | non | bl (b : Bool) | int (i : Int) | str (x : Str) | tup (xs : List D) | lst (xs : List D) | fn (x : Str) | klst (xs : List D) | ty (n : String) | obj (c : Str) (ns : List Str) (ds : List D) | rng (i j c : Int)
  deriving Inhabited

def FzL (H : Hp) (a : Addr) (xs : List V) : Prop := ∃ o, H a = some (.frz o (.lst xs))
def FkL (K : PySem.W.Frag) (H : Hp) (a : Addr) (xs : List V) : Prop :=
  FzL H a xs ∨
  ∃ (o : Obj) (its : Array Value) (n : Nat), K.lookup a = some o ∧ o.cls = .type "list" ∧ o.dict = none ∧ o.data = .seq its n ∧ its.size ≤ sizeLine ∧ Vals xs its.toList

def NdT (H : Hp) (a : Addr) (xs : List V) : Prop := ∃ o : Obj, H a = some (.frz o (.tup xs)) ∧ o.dict = none
def TpT (K : PySem.W.Frag) (H : Hp) (a : Addr) (xs : List V) : Prop :=
  NdT H a xs ∨
  ∃ (o : Obj) (its : Array Value) (n : Nat), K.lookup a = some o ∧ o.cls = .type "tuple" ∧ o.dict = none ∧ o.data = .seq its n ∧ its.size ≤ sizeLine ∧ Vals xs its.toList
def FzO (K : PySem.W.Frag) (mg : Str → Option Value) (H : Hp) (a : Addr) (c : Str) (ns : List Str) (vs : List V) : Prop :=
  ∃ (C dx : Addr) (od : Obj), mg c = some (Value.ref C) ∧ L2.Cls K C ∧ (∀ f ∈ ns, L2.NoAttr K C f) ∧ ns.length = vs.length ∧ H a = some (.frz (PySem.W.instObj C dx) (.own a)) ∧ H dx = some (.frz od (.xd (ns.zip vs)))
def FzR (H : Hp) (a : Addr) (i j c : Int) : Prop := ∃ (t u v : Tok), H a = some (.frz { cls := .type "range", data := .fields #[.int i t, .int j u, .int c v] } (.own a))
mutual
inductive RD (K : PySem.W.Frag) (mg : Str → Option Value) (H : Hp) : V → D → Prop
  | non : RD K mg H .non .non
  | bl (b : Bool) : RD K mg H (.bl b) (.bl b)
  | int (i : Int) : RD K mg H (.int i) (.int i)
  | str (x : Str) : RD K mg H (.str x) (.str x)
  | tup {a : Addr} {xs : List V} {ds : List D} : TpT K H a xs → RDs K mg H xs ds → RD K mg H (.ref a) (.tup ds)
  | lst {a : Addr} {xs : List V} {ds : List D} : FzL H a xs → RDs K mg H xs ds → RD K mg H (.ref a) (.lst ds)
  | klst {a : Addr} {xs : List V} {ds : List D} : FkL K H a xs → RDs K mg H xs ds → RD K mg H (.ref a) (.klst ds)
  | ty (n : String) : RD K mg H (.ty n) (.ty n)
  | fn {a : Addr} {x : Str} : mg x = some (Value.ref a) → RD K mg H (.ref a) (.fn x)
  | obj {a : Addr} {c : Str} {ns : List Str} {vs : List V} {ds : List D} : FzO K mg H a c ns vs → RDs K mg H vs ds → RD K mg H (.ref a) (.obj c ns ds)
  | rng {a : Addr} {i j c : Int} : FzR H a i j c → RD K mg H (.ref a) (.rng i j c)
inductive RDs (K : PySem.W.Frag) (mg : Str → Option Value) (H : Hp) : List V → List D → Prop
  | nil : RDs K mg H [] []
  | cons {x : V} {d : D} {xs : List V} {ds : List D} : RD K mg H x d → RDs K mg H xs ds → RDs K mg H (x :: xs) (d :: ds)
end

structure Ext (H H' : Hp) : Prop where
  tup : ∀ b xs, H b = some (.tup xs) → H' b = some (.tup xs)
  frz : ∀ b o u, H b = some (.frz o u) → H' b = some (.frz o u)
theorem Ext.refl (H : Hp) : Ext H H := ⟨fun _ _ h => h, fun _ _ _ h => h⟩
theorem Ext.trans {H H1 H2 : Hp} (a : Ext H H1) (b : Ext H1 H2) : Ext H H2 := ⟨fun c xs h => b.tup c xs (a.tup c xs h), fun c o u h => b.frz c o u (a.frz c o u h)⟩
theorem Ext.of_same {H H' : Hp} (s : Same H H') : Ext H H' := ⟨fun b xs h => s b _ h, fun b o u h => s b _ h⟩

def Kp (o : HO) (x : Option HO) : Prop := x = some o ∨ ∃ ps more, o = .tbl ps ∧ x = some (.tbl (ps ++ more))
theorem Kp.of {o : HO} {x : Option HO} (h : x = some o) : Kp o x := .inl h
theorem Kp.step {o : HO} {x y : Option HO} (k : Kp o x) (s : ∀ u, x = some u → Kp u y) : Kp o y := by
  rcases k with k | ⟨ps, more, rfl, k⟩
  · exact s _ k
  · rcases s _ k with q | ⟨ps', more', e, q⟩
    · exact .inr ⟨ps, more, rfl, q⟩
    · cases e
      exact .inr ⟨ps, more ++ more', rfl, by rw [q, Array.append_assoc]⟩
theorem Kp.is {o : HO} {x : Option HO} (k : Kp o x) (n : ∀ ps, o ≠ .tbl ps) : x = some o := by
  rcases k with k | ⟨ps, more, rfl, k⟩
  · exact k
  · exact absurd rfl (n ps)
theorem Kp.any {o : HO} {x : Option HO} (k : Kp o x) : ∃ u, x = some u := by
  rcases k with k | ⟨ps, more, rfl, k⟩
  · exact ⟨_, k⟩
  · exact ⟨_, k⟩
theorem tabG_keep {H H' : Hp} {P : Addr} (h : GxR.TabG H P) (k : ∀ o, H P = some o → (∃ ps, o = .tbl ps) → H' P = some o) : GxR.TabG H' P := by
  obtain ⟨ps, e, ht⟩ := h
  exact ⟨ps, k _ e ⟨ps, rfl⟩, ht⟩
structure Sm [Tabs] (H H' : Hp) : Prop where
  kp : ∀ b o, H b = some o → Kp o (H' b)
  tb : ∀ P, Tabs.T P → GxR.TabG H' P
theorem Ext.of_sm [Tabs] {H H' : Hp} (s : Sm H H') : Ext H H' := ⟨fun b xs h => (s.kp b _ h).is fun ps z => (nomatch z), fun b o u h => (s.kp b _ h).is fun ps z => (nomatch z)⟩
theorem Sm.lst [Tabs] {H H' : Hp} (s : Sm H H') {b : Addr} {xs : List V} (h : H b = some (.lst xs)) : H' b = some (.lst xs) := (s.kp b _ h).is fun ps z => (nomatch z)

section
variable {K : PySem.W.Frag} {mg : Str → Option Value} {H H' : Hp}
theorem TpT.ext {a : Addr} {xs : List V} (e : Ext H H') (h : TpT K H a xs) : TpT K H' a xs := by
  rcases h with ⟨o, h, hd⟩ | h
  · exact .inl ⟨o, e.frz _ _ _ h, hd⟩
  · exact .inr h
theorem TpT.seq {a : Addr} {xs : List V} (h : TpT K H a xs) : SqT K H a xs := by
  rcases h with ⟨o, h, hd⟩ | ⟨o, its, n, h1, h2, _, h3⟩
  · exact .inl (.inr ⟨o, h⟩)
  · exact .inr ⟨o, its, n, h1, h2, h3⟩
theorem FzL.ext {a : Addr} {xs : List V} (e : Ext H H') (h : FzL H a xs) : FzL H' a xs := by
  obtain ⟨o, h⟩ := h
  exact ⟨o, e.frz _ _ _ h⟩
theorem FzL.seq {a : Addr} {xs : List V} (h : FzL H a xs) : SqL K H a xs := by
  obtain ⟨o, h⟩ := h
  exact .inl (.inr ⟨o, h⟩)
theorem FkL.ext {a : Addr} {xs : List V} (e : Ext H H') (h : FkL K H a xs) : FkL K H' a xs := by
  rcases h with h | h
  · exact .inl (h.ext e)
  · exact .inr h
theorem FkL.seq {a : Addr} {xs : List V} (h : FkL K H a xs) : SqL K H a xs := by
  rcases h with h | h
  · exact h.seq
  · exact .inr h
theorem FzO.ext {a : Addr} {c : Str} {ns : List Str} {vs : List V} (e : Ext H H') (h : FzO K mg H a c ns vs) : FzO K mg H' a c ns vs := by
  obtain ⟨C, dx, od, h1, h2, h3, h4, h5, h6⟩ := h
  exact ⟨C, dx, od, h1, h2, h3, h4, e.frz _ _ _ h5, e.frz _ _ _ h6⟩
theorem FzR.ext {a : Addr} {i j c : Int} (e : Ext H H') (h : FzR H a i j c) : FzR H' a i j c := by
  obtain ⟨t, u, v, h⟩ := h
  exact ⟨t, u, v, e.frz _ _ _ h⟩
mutual
theorem RD.ext (e : Ext H H') : ∀ {v : V} {d : D}, RD K mg H v d → RD K mg H' v d
  | _, _, .non => .non
  | _, _, .bl b => .bl b
  | _, _, .int i => .int i
  | _, _, .str x => .str x
  | _, _, .tup h r => .tup (TpT.ext e h) (RDs.ext e r)
  | _, _, .lst h r => .lst (FzL.ext e h) (RDs.ext e r)
  | _, _, .klst h r => .klst (FkL.ext e h) (RDs.ext e r)
  | _, _, .fn h => .fn h
  | _, _, .ty n => .ty n
  | _, _, .obj h r => .obj (FzO.ext e h) (RDs.ext e r)
  | _, _, .rng h => .rng (FzR.ext e h)
theorem RDs.ext (e : Ext H H') : ∀ {vs : List V} {ds : List D}, RDs K mg H vs ds → RDs K mg H' vs ds
  | _, _, .nil => .nil
  | _, _, .cons r t => .cons (RD.ext e r) (RDs.ext e t)
end
theorem RDs.length : ∀ {vs : List V} {ds : List D}, RDs K mg H vs ds → vs.length = ds.length
  | _, _, .nil => rfl
  | _, _, .cons _ t => congrArg Nat.succ (RDs.length t)
theorem RDs.get : ∀ {vs : List V} {ds : List D} {i : Nat} {d : D}, RDs K mg H vs ds → ds[i]? = some d → ∃ v, vs[i]? = some v ∧ RD K mg H v d
  | _, _, _, _, .nil, e => by simp at e
  | _, _, 0, _, .cons r _, e => by simp at e; subst e; exact ⟨_, rfl, r⟩
  | _, _, i + 1, d, .cons _ t, e => by
    obtain ⟨v, h1, h2⟩ := RDs.get (i := i) (d := d) t (by simpa using e)
    exact ⟨v, by simpa using h1, h2⟩
theorem RDs.get' : ∀ {vs : List V} {ds : List D} {i : Nat} {v : V}, RDs K mg H vs ds → vs[i]? = some v → ∃ d, ds[i]? = some d ∧ RD K mg H v d
  | _, _, _, _, .nil, e => by simp at e
  | _, _, 0, _, .cons r _, e => by simp at e; subst e; exact ⟨_, rfl, r⟩
  | _, _, i + 1, v, .cons _ t, e => by
    obtain ⟨d, h1, h2⟩ := RDs.get' (i := i) (v := v) t (by simpa using e)
    exact ⟨d, by simpa using h1, h2⟩
theorem RDs.append : ∀ {xs ys : List V} {ds es : List D}, RDs K mg H xs ds → RDs K mg H ys es → RDs K mg H (xs ++ ys) (ds ++ es)
  | _, _, _, _, .nil, s => s
  | _, _, _, _, .cons r t, s => .cons r (RDs.append t s)
theorem RDs.take : ∀ {xs : List V} {ds : List D} (n : Nat), RDs K mg H xs ds → RDs K mg H (xs.take n) (ds.take n)
  | _, _, 0, _ => .nil
  | _, _, _ + 1, .nil => .nil
  | _, _, n + 1, .cons r t => .cons r (RDs.take n t)
theorem RDs.drop : ∀ {xs : List V} {ds : List D} (n : Nat), RDs K mg H xs ds → RDs K mg H (xs.drop n) (ds.drop n)
  | _, _, 0, r => r
  | _, _, _ + 1, .nil => .nil
  | _, _, n + 1, .cons _ t => RDs.drop n t
theorem RDs.set {x : V} {d : D} (r : RD K mg H x d) : ∀ {xs : List V} {ds : List D} (i : Nat), RDs K mg H xs ds → RDs K mg H (xs.set i x) (ds.set i d)
  | _, _, _, .nil => .nil
  | _, _, 0, .cons _ t => .cons r t
  | _, _, i + 1, .cons q t => .cons q (RDs.set r i t)
theorem RDs.snoc {xs : List V} {ds : List D} {x : V} {d : D} (h : RDs K mg H xs ds) (r : RD K mg H x d) : RDs K mg H (xs ++ [x]) (ds ++ [d]) := h.append (.cons r .nil)
theorem RDs.rep {x : V} {d : D} (r : RD K mg H x d) : ∀ n, RDs K mg H (List.replicate n x) (List.replicate n d)
  | 0 => .nil
  | n + 1 => .cons r (RDs.rep r n)
theorem RDs.flat {xs : List V} {ds : List D} (r : RDs K mg H xs ds) : ∀ n, RDs K mg H (List.replicate n xs).flatten (List.replicate n ds).flatten
  | 0 => .nil
  | n + 1 => by
    rw [List.replicate_succ, List.replicate_succ, List.flatten_cons, List.flatten_cons]
    exact r.append (RDs.flat r n)
theorem RDs.ints : ∀ (ns : List Int), RDs K mg H (ns.map V.int) (ns.map D.int)
  | [] => .nil
  | n :: r => .cons (.int n) (RDs.ints r)
theorem RDs.of_ints : ∀ {vs : List V} (ns : List Int), RDs K mg H vs (ns.map D.int) → vs = ns.map V.int
  | _, [], .nil => rfl
  | _, n :: r, .cons (.int _) t => congrArg (V.int n :: ·) (RDs.of_ints r t)
end

inductive Res (α : Type) where
  | ok (a : α) | exn (c : Str) (fs : List (Str × D)) | stuck
def Res.bind {α β : Type} (m : Res α) (k : α → Res β) : Res β := match m with
  | .ok a => k a
  | .exn c fs => .exn c fs
  | .stuck => .stuck
instance : Monad Res where
  pure a := .ok a
  bind m k := m.bind k

inductive AV where
  | dat (d : D) | ptr (k : Nat)
  deriving Inhabited
inductive AO where
  | lst (xs : List AV) | ins (c : Str) (nn : List Str) (vs : List AV)
  deriving Inhabited
inductive NX where
  | root (ar : List AO) (k : Nat) | ptr (k : Nat)
inductive MV where
  | dat (d : D) | own (ds : List D) | nst (x : NX) | ins (c : Str) (nn : List Str) (dd : List D)
abbrev En := List (Option MV)
def AVr (K : PySem.W.Frag) (mg : Str → Option Value) (H : Hp) (as : List Addr) (v : V) : AV → Prop
  | .dat d => RD K mg H v d
  | .ptr k => ∃ b, as[k]? = some b ∧ v = .ref b
structure AVs (K : PySem.W.Frag) (mg : Str → Option Value) (H : Hp) (as : List Addr) (vs : List V) (xs : List AV) : Prop where
  len : vs.length = xs.length
  at_ : ∀ (j : Nat) (v : V) (x : AV), vs[j]? = some v → xs[j]? = some x → AVr K mg H as v x
def AOr (K : PySem.W.Frag) (mg : Str → Option Value) (H : Hp) (as : List Addr) (b : Addr) : AO → Prop
  | .lst xs => ∃ vs, H b = some (.lst vs) ∧ AVs K mg H as vs xs
  | .ins c nn xs => ∃ (C dx : Addr) (vs : List V), mg c = some (Value.ref C) ∧ L2.Cls K C ∧ (∀ f ∈ nn, L2.NoAttr K C f) ∧ nn.length = vs.length ∧ H b = some (.ins C dx (nn.zip vs)) ∧ AVs K mg H as vs xs
structure Aok (K : PySem.W.Frag) (mg : Str → Option Value) (H : Hp) (as : List Addr) (ar : List AO) : Prop where
  len : as.length = ar.length
  nod : as.Nodup
  obj : ∀ (j : Nat) (o : AO) (b : Addr), ar[j]? = some o → as[j]? = some b → AOr K mg H as b o
structure NsW (K : PySem.W.Frag) (mg : Str → Option Value) (H0 : Hp) (A : List (Nat × Addr)) (σ : L2.St) (H : Hp) (ρ : En) (i : Nat) (ar : List AO) (k : Nat) (as : List Addr) : Prop where
  ok : Aok K mg H as ar
  at_ : ∃ b, as[k]? = some b ∧ σ[i]? = some (some (V.ref b))
  new : ∀ b ∈ as, H0 b = none
  one : ∀ (j : Nat) (ar' : List AO) (k' : Nat), ρ[j]? = some (some (MV.nst (.root ar' k'))) → j = i
  ptr : ∀ (j k' : Nat), ρ[j]? = some (some (MV.nst (.ptr k'))) → ∃ b, as[k']? = some b ∧ σ[j]? = some (some (V.ref b))
  own : ∀ (j : Nat) (ds : List D) (c : Addr), ρ[j]? = some (some (MV.own ds)) → σ[j]? = some (some (V.ref c)) → c ∉ as
  noi : ∀ (j : Nat) (c : Str) (nn : List Str) (dd : List D), ρ[j]? ≠ some (some (MV.ins c nn dd))
def Nso (K : PySem.W.Frag) (mg : Str → Option Value) (H0 : Hp) (A : List (Nat × Addr)) (σ : L2.St) (H : Hp) (ρ : En) : Prop :=
  ∀ (i : Nat) (ar : List AO) (k : Nat), ρ[i]? = some (some (MV.nst (.root ar k))) → ∃ as, NsW K mg H0 A σ H ρ i ar k as
structure NA (H0 : Hp) (A : List (Nat × Addr)) (σ : L2.St) (H : Hp) (ρ : En) (b : Addr) : Prop where
  new : H0 b = none
  own' : ∀ (j : Nat) (ds : List D), ρ[j]? = some (some (MV.own ds)) → σ[j]? ≠ some (some (V.ref b))
  noi : ∀ (j : Nat) (c : Str) (nn : List Str) (dd : List D), ρ[j]? ≠ some (some (MV.ins c nn dd))
  obj : (∃ xs, H b = some (.lst xs)) ∨ ∃ C dx fs, H b = some (.ins C dx fs)
section
variable {K : PySem.W.Frag} {mg : Str → Option Value} {H0 H0' H H' : Hp} {A A' : List (Nat × Addr)} {σ σ' : L2.St} {ρ ρ' : En} {b : Addr}
theorem AVr.ext {as as' : List Addr} {v : V} (e : Ext H H') (p : ∀ (j : Nat) (b : Addr), as[j]? = some b → as'[j]? = some b) : ∀ {x : AV}, AVr K mg H as v x → AVr K mg H' as' v x
  | .dat _, h => RD.ext e h
  | .ptr _, ⟨b, h1, h2⟩ => ⟨b, p _ b h1, h2⟩
theorem AVs.ext {as as' : List Addr} {vs : List V} {xs : List AV} (e : Ext H H') (p : ∀ (j : Nat) (b : Addr), as[j]? = some b → as'[j]? = some b) (h : AVs K mg H as vs xs) : AVs K mg H' as' vs xs :=
  ⟨h.len, fun j v x h1 h2 => (h.at_ j v x h1 h2).ext e p⟩
theorem AOr.ext {as as' : List Addr} {b : Addr} {o : AO} (e : Ext H H') (p : ∀ (j : Nat) (b : Addr), as[j]? = some b → as'[j]? = some b) (hl : ∀ xs, H b = some (.lst xs) → H' b = some (.lst xs)) (hi : ∀ C dx fs, H b = some (.ins C dx fs) → H' b = some (.ins C dx fs)) (h : AOr K mg H as b o) : AOr K mg H' as' b o := by
  cases o with
  | lst xs =>
    obtain ⟨vs, h1, h2⟩ := h
    exact ⟨vs, hl _ h1, h2.ext e p⟩
  | ins c nn xs =>
    obtain ⟨C, dx, vs, h1, h2, h3, h4, h5, h6⟩ := h
    exact ⟨C, dx, vs, h1, h2, h3, h4, hi _ _ _ h5, h6.ext e p⟩
theorem Aok.shape {as : List Addr} {ar : List AO} (k : Aok K mg H as ar) {b : Addr} (hb : b ∈ as) : (∃ xs, H b = some (.lst xs)) ∨ ∃ C dx fs, H b = some (.ins C dx fs) := by
  obtain ⟨j, hj⟩ := List.getElem?_of_mem hb
  have hl : j < ar.length := by rw [← k.len]; exact (List.getElem?_eq_some_iff.mp hj).1
  have := k.obj j _ b (List.getElem?_eq_getElem hl) hj
  cases e : ar[j] with
  | lst xs =>
    rw [e] at this
    obtain ⟨vs, h1, h2⟩ := this
    exact .inl ⟨_, h1⟩
  | ins c nn xs =>
    rw [e] at this
    obtain ⟨C, dx, vs, h1, h2, h3, h4, h5, h6⟩ := this
    exact .inr ⟨_, _, _, h5⟩
theorem NsW.na {i : Nat} {ar : List AO} {k : Nat} {as : List Addr} (w : NsW K mg H0 A σ H ρ i ar k as) (hb : b ∈ as) : NA H0 A σ H ρ b :=
  ⟨w.new b hb, fun j ds h1 h2 => w.own j ds b h1 h2 hb, w.noi, w.ok.shape hb⟩
theorem NA.own (h : NA H0 A σ H ρ b) {j : Nat} {ds : List D} (h1 : ρ[j]? = some (some (MV.own ds))) (h2 : σ[j]? = some (some (V.ref b))) : False := h.own' j ds h1 h2
theorem Nso.env (n : Nso K mg H0 A σ H ρ) (h1 : ∀ (i : Nat) (x : NX), ρ'[i]? = some (some (MV.nst x)) → ρ[i]? = some (some (MV.nst x)) ∧ σ'[i]? = σ[i]?)
    (h2 : ∀ (j : Nat) (ds : List D) (c : Addr), ρ'[j]? = some (some (MV.own ds)) → σ'[j]? = some (some (V.ref c)) → NA H0 A σ H ρ c → False)
    (h6 : ∀ (j : Nat) (c : Str) (nn : List Str) (dd : List D), ρ'[j]? = some (some (MV.ins c nn dd)) → ρ[j]? = some (some (MV.ins c nn dd)) ∧ σ'[j]? = σ[j]?) : Nso K mg H0 A σ' H ρ' := by
  intro i ar k h
  obtain ⟨g1, g2⟩ := h1 i _ h
  obtain ⟨as, w⟩ := n i ar k g1
  obtain ⟨b, a1, a2⟩ := w.at_
  refine ⟨as, w.ok, ⟨b, a1, g2.trans a2⟩, w.new, fun j ar' k' hj => w.one j ar' k' (h1 j _ hj).1, fun j k' hj => ?_, fun j ds c hj hs hc => h2 j ds c hj hs (w.na hc), fun j c nn dd hj => w.noi j c nn dd (h6 j c nn dd hj).1⟩
  obtain ⟨q1, q2⟩ := h1 j _ hj
  obtain ⟨c, c1, c2⟩ := w.ptr j k' q1
  exact ⟨c, c1, q2.trans c2⟩
theorem Nso.heap (n : Nso K mg H0 A σ H ρ) (h3 : ∀ (b : Addr) (xs : List V), NA H0 A σ H ρ b → H b = some (.lst xs) → H' b = some (.lst xs)) (h4 : Ext H H')
    (h5 : ∀ (b C dx : Addr) (fs : List (Str × V)), NA H0 A σ H ρ b → H b = some (.ins C dx fs) → H' b = some (.ins C dx fs)) : Nso K mg H0 A σ H' ρ := by
  intro i ar k h
  obtain ⟨as, w⟩ := n i ar k h
  exact ⟨as, ⟨w.ok.len, w.ok.nod, fun j o b h1 h2 => (w.ok.obj j o b h1 h2).ext h4 (fun _ _ q => q) (fun xs => h3 b xs (w.na (List.mem_of_getElem? h2))) (fun C dx fs => h5 b C dx fs (w.na (List.mem_of_getElem? h2)))⟩, w.at_, w.new, w.one, w.ptr, w.own, w.noi⟩
theorem Nso.entry (n : Nso K mg H0 A σ H ρ) (h5 : ∀ b, NA H0 A σ H ρ b → H0' b = none) : Nso K mg H0' A σ H ρ := by
  intro i ar k h
  obtain ⟨as, w⟩ := n i ar k h
  exact ⟨as, w.ok, w.at_, fun b hb => h5 b (w.na hb), w.one, w.ptr, w.own, w.noi⟩
theorem Nso.none (h : ∀ (i : Nat) (x : NX), ρ[i]? ≠ some (some (MV.nst x))) : Nso K mg H0 A σ H ρ := fun i ar k g => absurd g (h i _)
end
def Iso (K : PySem.W.Frag) (mg : Str → Option Value) (H0 : Hp) (A : List (Nat × Addr)) (σ : L2.St) (H : Hp) (ρ : En) : Prop :=
  ∀ (i : Nat) (c : Str) (nn : List Str) (dd : List D), ρ[i]? = some (some (MV.ins c nn dd)) → ∃ (a C dx : Addr) (vs : List V), σ[i]? = some (some (V.ref a)) ∧ mg c = some (Value.ref C) ∧ L2.Cls K C ∧ (∀ f ∈ nn, L2.NoAttr K C f) ∧ nn.length = vs.length ∧ H a = some (.ins C dx (nn.zip vs)) ∧ RDs K mg H vs dd ∧ (H0 a = none ∨ (i, a) ∈ A) ∧
    ∀ (j : Nat) (c' : Str) (nn' : List Str) (dd' : List D), ρ[j]? = some (some (MV.ins c' nn' dd')) → j = i
section
variable {K : PySem.W.Frag} {mg : Str → Option Value} {H0 H0' H H' : Hp} {A A' : List (Nat × Addr)} {σ σ' : L2.St} {ρ ρ' : En}
theorem Iso.env (n : Iso K mg H0 A σ H ρ) (h1 : ∀ (i : Nat) (c : Str) (nn : List Str) (dd : List D), ρ'[i]? = some (some (MV.ins c nn dd)) → ρ[i]? = some (some (MV.ins c nn dd)) ∧ σ'[i]? = σ[i]?) : Iso K mg H0 A σ' H ρ' := by
  intro i c nn dd h
  obtain ⟨g1, g2⟩ := h1 i c nn dd h
  obtain ⟨a, C, dx, vs, k1, k2, k3, k4, k5, k6, k7, k8, k9⟩ := n i c nn dd g1
  exact ⟨a, C, dx, vs, g2.trans k1, k2, k3, k4, k5, k6, k7, k8, fun j c' nn' dd' hj => k9 j c' nn' dd' (h1 j c' nn' dd' hj).1⟩
theorem Iso.heap (n : Iso K mg H0 A σ H ρ) (h3 : ∀ (b C dx : Addr) (fs : List (Str × V)), H b = some (.ins C dx fs) → H' b = some (.ins C dx fs)) (h4 : Ext H H') : Iso K mg H0 A σ H' ρ := by
  intro i c nn dd h
  obtain ⟨a, C, dx, vs, k1, k2, k3, k4, k5, k6, k7, k8, k9⟩ := n i c nn dd h
  exact ⟨a, C, dx, vs, k1, k2, k3, k4, k5, h3 _ _ _ _ k6, k7.ext h4, k8, k9⟩
theorem Iso.entry (n : Iso K mg H0 A σ H ρ) (h5 : ∀ b, H0 b = none → (∃ (C dx : Addr) (fs : List (Str × V)), H b = some (.ins C dx fs)) → H0' b = none) : Iso K mg H0' A σ H ρ := by
  intro i c nn dd h
  obtain ⟨a, C, dx, vs, k1, k2, k3, k4, k5, k6, k7, k8, k9⟩ := n i c nn dd h
  exact ⟨a, C, dx, vs, k1, k2, k3, k4, k5, k6, k7, k8.imp (fun z => h5 a z ⟨C, dx, _, k6⟩) id, k9⟩
theorem Iso.none (h : ∀ (i : Nat) (c : Str) (nn : List Str) (dd : List D), ρ[i]? ≠ some (some (MV.ins c nn dd))) : Iso K mg H0 A σ H ρ := fun i c nn dd g => absurd g (h i c nn dd)
end

theorem upd_none {H0 : Hp} {a : Addr} {o : HO} {b : Addr} (h : upd H0 a o b = none) : b ≠ a ∧ H0 b = none := by
  have n : b ≠ a := fun z => by rw [z, upd_same] at h; cases h
  rw [upd_ne n] at h
  exact ⟨n, h⟩
structure SR [Tabs] (K : PySem.W.Frag) (mg : Str → Option Value) (H0 : Hp) (A : List (Nat × Addr)) (σ : L2.St) (H : Hp) (ρ : En) : Prop where
  len : ρ.length = σ.length
  dat : ∀ (i : Nat) (d : D), ρ[i]? = some (some (MV.dat d)) → ∃ v, σ[i]? = some (some v) ∧ RD K mg H v d
  own : ∀ (i : Nat) (ds : List D), ρ[i]? = some (some (MV.own ds)) → ∃ a xs, σ[i]? = some (some (V.ref a)) ∧ H a = some (.lst xs) ∧ RDs K mg H xs ds ∧ (H0 a = none ∨ (i, a) ∈ A)
  ap : ∀ (i j : Nat) (ds ds' : List D) (a : Addr), i ≠ j → ρ[i]? = some (some (MV.own ds)) → ρ[j]? = some (some (MV.own ds')) → σ[i]? = some (some (V.ref a)) → σ[j]? = some (some (V.ref a)) → False
  fr : ∀ b o, H0 b = some o → b ∉ A.map (·.2) → Kp o (H b)
  ref : ∀ p ∈ A, σ[p.1]? = some (some (V.ref p.2))
  liv : ∀ p ∈ A, ∃ o, H p.2 = some o
  tb : ∀ P, Tabs.T P → GxR.TabG H P
  nst : Nso K mg H0 A σ H ρ
  ins : Iso K mg H0 A σ H ρ

section
variable [Tabs] {K : PySem.W.Frag} {mg : Str → Option Value} {H0 H H' : Hp} {A : List (Nat × Addr)} {σ : L2.St} {ρ : En}
theorem SR.same (r : SR K mg H0 A σ H ρ) (s : Same H H') : SR K mg H0 A σ H' ρ := by
  have e := Ext.of_same s
  refine ⟨r.len, fun i d h => ?_, fun i ds h => ?_, r.ap, fun b o h n => (r.fr b o h n).step fun u q => .of (s b u q), r.ref, fun p hp => ?_, fun P hP => tabG_keep (r.tb P hP) fun o q _ => s P o q, r.nst.heap (fun b xs _ h => s b _ h) e (fun b C dx fs _ h => s b _ h), r.ins.heap (fun b C dx fs h => s b _ h) e⟩
  · obtain ⟨v, h1, h2⟩ := r.dat i d h
    exact ⟨v, h1, h2.ext e⟩
  · obtain ⟨a, xs, h1, h2, h3, h4⟩ := r.own i ds h
    exact ⟨a, xs, h1, s a _ h2, h3.ext e, h4⟩
  · obtain ⟨o, h⟩ := r.liv p hp
    exact ⟨o, s _ _ h⟩
theorem SR.sm (r : SR K mg H0 A σ H ρ) (s : Sm H H') : SR K mg H0 A σ H' ρ := by
  have e := Ext.of_sm s
  refine ⟨r.len, fun i d h => ?_, fun i ds h => ?_, r.ap, fun b o h n => (r.fr b o h n).step fun u q => s.kp b u q, r.ref, fun p hp => ?_, s.tb, r.nst.heap (fun b xs _ h => s.lst h) e (fun b C dx fs _ h => (s.kp b _ h).is fun ps z => (nomatch z)), r.ins.heap (fun b C dx fs h => (s.kp b _ h).is fun ps z => (nomatch z)) e⟩
  · obtain ⟨v, h1, h2⟩ := r.dat i d h
    exact ⟨v, h1, h2.ext e⟩
  · obtain ⟨a, xs, h1, h2, h3, h4⟩ := r.own i ds h
    exact ⟨a, xs, h1, s.lst h2, h3.ext e, h4⟩
  · obtain ⟨o, h⟩ := r.liv p hp
    exact (s.kp _ _ h).any
theorem SR.frl (r : SR K mg H0 A σ H ρ) {a : Addr} {xs : List V} (h : H0 a = some (.lst xs)) (n : a ∉ A.map (·.2)) : H a = some (.lst xs) := (r.fr a _ h n).is fun ps z => (nomatch z)
theorem SR.fresh (r : SR K mg H0 A σ H ρ) {a : Addr} (h : H a = none) : H0 a = none := by
  cases q : H0 a with
  | none => rfl
  | some o =>
    by_cases hm : a ∈ A.map (·.2)
    · obtain ⟨p, hp, rfl⟩ := List.mem_map.mp hm
      obtain ⟨o', h'⟩ := r.liv p hp
      rw [h] at h'; cases h'
    · obtain ⟨u, z⟩ := (r.fr a o q hm).any
      rw [z] at h; cases h
theorem SR.put {i : Nat} {v : V} {d : D} (r : SR K mg H0 A σ H ρ) (hi : i ∉ A.map (·.1)) (rd : RD K mg H v d) : SR K mg H0 A (σ.set i (some v)) H (ρ.set i (some (MV.dat d))) := by
  have gt : ∀ (j : Nat) (x : Option MV), (ρ.set i (some (MV.dat d)))[j]? = some x → (j = i ∧ x = some (MV.dat d)) ∨ (j ≠ i ∧ ρ[j]? = some x) := fun j x h => by
    rw [List.getElem?_set] at h
    by_cases e : i = j
    · subst e
      simp only [if_true] at h
      split at h
      · exact .inl ⟨rfl, (Option.some.inj h).symm⟩
      · cases h
    · rw [if_neg e] at h
      exact .inr ⟨fun q => e q.symm, h⟩
  have ns : ∀ (j : Nat), j ≠ i → (σ.set i (some v))[j]? = σ[j]? := fun j h => List.getElem?_set_ne (fun q => h q.symm)
  refine ⟨by rw [List.length_set, List.length_set]; exact r.len, fun j d' h => ?_, fun j ds h => ?_, fun j k ds ds' a hjk h1 h2 h3 h4 => ?_, r.fr, fun p hp => ?_, r.liv, r.tb, r.nst.env (fun j rows h => ?_) (fun j es c h hs na => ?_) (fun j c nn dd h => ?_), r.ins.env (fun j c nn dd h => ?_)⟩
  · rcases gt j _ h with ⟨rfl, e⟩ | ⟨n, h⟩
    · cases e
      refine ⟨v, ?_, rd⟩
      have hl : j < σ.length := by
        have : j < (ρ.set j (some (MV.dat d))).length := (List.getElem?_eq_some_iff.mp h).1
        rw [List.length_set, r.len] at this
        exact this
      exact List.getElem?_set_self hl
    · rw [ns j n]
      exact r.dat j d' h
  · rcases gt j _ h with ⟨rfl, e⟩ | ⟨n, h⟩
    · cases e
    · rw [ns j n]
      exact r.own j ds h
  · rcases gt j _ h1 with ⟨rfl, e⟩ | ⟨n1, h1⟩
    · cases e
    · rcases gt k _ h2 with ⟨rfl, e⟩ | ⟨n2, h2⟩
      · cases e
      · rw [ns j n1] at h3
        rw [ns k n2] at h4
        exact r.ap j k ds ds' a hjk h1 h2 h3 h4
  · have hn : p.1 ≠ i := fun q => hi (q ▸ List.mem_map_of_mem hp)
    rw [ns _ hn]
    exact r.ref p hp
  · rcases gt j _ h with ⟨rfl, e⟩ | ⟨n, h⟩
    · cases e
    · exact ⟨h, ns j n⟩
  · rcases gt j _ h with ⟨rfl, e⟩ | ⟨n, h⟩
    · cases e
    · rw [ns j n] at hs
      exact na.own h hs
  · rcases gt j _ h with ⟨rfl, e⟩ | ⟨n, h⟩
    · cases e
    · exact ⟨h, ns j n⟩
  · rcases gt j _ h with ⟨rfl, e⟩ | ⟨n, h⟩
    · cases e
    · exact ⟨h, ns j n⟩
theorem SR.putOwn {i : Nat} {a : Addr} {xs : List V} {ds : List D} (r : SR K mg H0 A σ H ρ) (hi : i ∉ A.map (·.1)) (ha : H a = some (.lst xs)) (rd : RDs K mg H xs ds) (h0 : H0 a = none)
    (hn : ∀ (j : Nat) (ds' : List D), ρ[j]? = some (some (MV.own ds')) → σ[j]? ≠ some (some (V.ref a))) {ys : List V} (hN : Nso K mg (upd H0 a (.lst ys)) A σ H ρ) : SR K mg H0 A (σ.set i (some (V.ref a))) H (ρ.set i (some (MV.own ds))) := by
  have gt : ∀ (j : Nat) (x : Option MV), (ρ.set i (some (MV.own ds)))[j]? = some x → (j = i ∧ x = some (MV.own ds)) ∨ (j ≠ i ∧ ρ[j]? = some x) := fun j x h => by
    rw [List.getElem?_set] at h
    by_cases e : i = j
    · subst e
      simp only [if_true] at h
      split at h
      · exact .inl ⟨rfl, (Option.some.inj h).symm⟩
      · cases h
    · rw [if_neg e] at h
      exact .inr ⟨fun q => e q.symm, h⟩
  have ns : ∀ (j : Nat), j ≠ i → (σ.set i (some (V.ref a)))[j]? = σ[j]? := fun j h => List.getElem?_set_ne (fun q => h q.symm)
  refine ⟨by rw [List.length_set, List.length_set]; exact r.len, fun j d' h => ?_, fun j ds' h => ?_, fun j k d1 d2 b hjk h1 h2 h3 h4 => ?_, r.fr, fun p hp => ?_, r.liv, r.tb, (hN.env (fun j rows h => ?_) (fun j es c h hs na => ?_) (fun j c nn dd h => ?_)).entry (fun b na => (upd_none na.new).2), r.ins.env (fun j c nn dd h => ?_)⟩
  · rcases gt j _ h with ⟨rfl, e⟩ | ⟨n, h⟩
    · cases e
    · rw [ns j n]
      exact r.dat j d' h
  · rcases gt j _ h with ⟨rfl, e⟩ | ⟨n, h⟩
    · cases e
      have hl : j < σ.length := by
        have : j < (ρ.set j (some (MV.own _))).length := (List.getElem?_eq_some_iff.mp h).1
        rw [List.length_set, r.len] at this
        exact this
      exact ⟨a, xs, List.getElem?_set_self hl, ha, rd, .inl h0⟩
    · rw [ns j n]
      exact r.own j ds' h
  · rcases gt j _ h1 with ⟨rfl, e⟩ | ⟨n1, h1⟩
    · rcases gt k _ h2 with ⟨rfl, e⟩ | ⟨n2, h2⟩
      · exact hjk rfl
      · have hl : j < σ.length := by
          have := (List.getElem?_eq_some_iff.mp h3).1
          rw [List.length_set] at this
          exact this
        rw [List.getElem?_set_self hl] at h3
        rw [ns k n2] at h4
        cases h3
        exact hn k d2 h2 h4
    · have h1' := h1
      rcases gt k _ h2 with ⟨rfl, e⟩ | ⟨n2, h2⟩
      · have hl : k < σ.length := by
          have := (List.getElem?_eq_some_iff.mp h4).1
          rw [List.length_set] at this
          exact this
        rw [List.getElem?_set_self hl] at h4
        rw [ns j n1] at h3
        cases h4
        exact hn j d1 h1' h3
      · rw [ns j n1] at h3
        rw [ns k n2] at h4
        exact r.ap j k d1 d2 b hjk h1' h2 h3 h4
  · have hn : p.1 ≠ i := fun q => hi (q ▸ List.mem_map_of_mem hp)
    rw [ns _ hn]
    exact r.ref p hp
  · rcases gt j _ h with ⟨rfl, e⟩ | ⟨n, h⟩
    · cases e
    · exact ⟨h, ns j n⟩
  · rcases gt j _ h with ⟨rfl, e⟩ | ⟨n, h⟩
    · have hl : j < σ.length := by
        have := (List.getElem?_eq_some_iff.mp hs).1
        rw [List.length_set] at this
        exact this
      rw [List.getElem?_set_self hl] at hs
      cases hs
      exact (upd_none na.new).1 rfl
    · rw [ns j n] at hs
      exact na.own h hs
  · rcases gt j _ h with ⟨rfl, e⟩ | ⟨n, h⟩
    · cases e
    · exact ⟨h, ns j n⟩
  · rcases gt j _ h with ⟨rfl, e⟩ | ⟨n, h⟩
    · cases e
    · exact ⟨h, ns j n⟩
theorem SR.mut {i : Nat} {a : Addr} {xs ys : List V} {ds es : List D} (r : SR K mg H0 A σ H ρ) (hi : ρ[i]? = some (some (MV.own ds))) (hs : σ[i]? = some (some (V.ref a))) (ha : H a = some (.lst xs))
    (h0 : H0 a = none ∨ (i, a) ∈ A) (ho : ∀ b o, b ≠ a → H b = some o → H' b = some o) (h' : H' a = some (.lst ys)) (rd : RDs K mg H' ys es) : SR K mg H0 A σ H' (ρ.set i (some (MV.own es))) := by
  have e : Ext H H' := ⟨fun b zs q => ho b _ (fun z => by rw [z, ha] at q; cases q) q, fun b o u q => ho b _ (fun z => by rw [z, ha] at q; cases q) q⟩
  have gt : ∀ (j : Nat) (x : Option MV), (ρ.set i (some (MV.own es)))[j]? = some x → (j = i ∧ x = some (MV.own es)) ∨ (j ≠ i ∧ ρ[j]? = some x) := fun j x h => by
    rw [List.getElem?_set] at h
    by_cases e : i = j
    · subst e
      simp only [if_true] at h
      split at h
      · exact .inl ⟨rfl, (Option.some.inj h).symm⟩
      · cases h
    · rw [if_neg e] at h
      exact .inr ⟨fun q => e q.symm, h⟩
  have ish : Iso K mg H0 A σ H' ρ := r.ins.heap (fun b C dx fs h => ho b _ (fun z => by rw [z, ha] at h; cases h) h) e
  have nsh : Nso K mg H0 A σ H' ρ := r.nst.heap (fun b xs na h => ho b _ (fun z => by subst z; exact na.own hi hs) h) e (fun b C dx fs _ h => ho b _ (fun z => by rw [z, ha] at h; cases h) h)
  refine ⟨by rw [List.length_set]; exact r.len, fun j d h => ?_, fun j d1 h => ?_, fun j k d1 d2 b hjk h1 h2 h3 h4 => ?_, fun b o h n => ?_, r.ref, fun p hp => ?_, fun P hP => tabG_keep (r.tb P hP) fun o q ⟨ps, e⟩ => ho P o (fun z => by rw [z, ha, e] at q; cases q) q, nsh.env (fun j rows h => ?_) (fun j d1 c h hc na => ?_) (fun j c nn dd h => ?_), ish.env (fun j c nn dd h => ?_)⟩
  · rcases gt j _ h with ⟨rfl, q⟩ | ⟨n, h⟩
    · cases q
    · obtain ⟨v, h1, h2⟩ := r.dat j d h
      exact ⟨v, h1, h2.ext e⟩
  · rcases gt j _ h with ⟨rfl, q⟩ | ⟨n, h⟩
    · cases q
      exact ⟨a, ys, hs, h', rd, h0⟩
    · obtain ⟨b, zs, h1, h2, h3, h4⟩ := r.own j d1 h
      have nb : b ≠ a := fun z => by
        subst z
        exact r.ap j i d1 ds b n h hi h1 hs
      exact ⟨b, zs, h1, ho b _ nb h2, h3.ext e, h4⟩
  · have back : ∀ (m : Nat) (dd : List D), (ρ.set i (some (MV.own es)))[m]? = some (some (MV.own dd)) → ∃ dd', ρ[m]? = some (some (MV.own dd')) := fun m dd h => by
      rcases gt m _ h with ⟨rfl, q⟩ | ⟨n, h⟩
      · exact ⟨ds, hi⟩
      · exact ⟨dd, h⟩
    obtain ⟨_, q1⟩ := back j d1 h1
    obtain ⟨_, q2⟩ := back k d2 h2
    exact r.ap j k _ _ b hjk q1 q2 h3 h4
  · have nb : b ≠ a := fun z => by
      subst z
      rcases h0 with z | z
      · rw [z] at h; cases h
      · exact n (List.mem_map.mpr ⟨_, z, rfl⟩)
    exact (r.fr b o h n).step fun u q => .of (ho b u nb q)
  · obtain ⟨o, q⟩ := r.liv p hp
    by_cases z : p.2 = a
    · rw [z]; exact ⟨_, h'⟩
    · exact ⟨o, ho _ _ z q⟩
  · rcases gt j _ h with ⟨rfl, q⟩ | ⟨n, h⟩
    · cases q
    · exact ⟨h, rfl⟩
  · rcases gt j _ h with ⟨rfl, q⟩ | ⟨n, h⟩
    · exact na.own hi hc
    · exact na.own h hc
  · rcases gt j _ h with ⟨rfl, q⟩ | ⟨n, h⟩
    · cases q
    · exact ⟨h, rfl⟩
  · rcases gt j _ h with ⟨rfl, q⟩ | ⟨n, h⟩
    · cases q
    · exact ⟨h, rfl⟩
structure SmB (a : Addr) (H H' : Hp) : Prop where
  kp : ∀ b o, b ≠ a → H b = some o → Kp o (H' b)
  tb : ∀ P, Tabs.T P → GxR.TabG H' P
theorem SmB.ext {a : Addr} {xs : List V} (s : SmB a H H') (ha : H a = some (.lst xs)) : Ext H H' :=
  ⟨fun b zs q => (s.kp b _ (fun z => by rw [z, ha] at q; cases q) q).is fun ps z => (nomatch z), fun b o u q => (s.kp b _ (fun z => by rw [z, ha] at q; cases q) q).is fun ps z => (nomatch z)⟩
theorem SR.mutK {i : Nat} {a : Addr} {xs ys : List V} {ds es : List D} (r : SR K mg H0 A σ H ρ) (hi : ρ[i]? = some (some (MV.own ds))) (hs : σ[i]? = some (some (V.ref a))) (ha : H a = some (.lst xs))
    (h0 : H0 a = none ∨ (i, a) ∈ A) (s : SmB a H H') (h' : H' a = some (.lst ys)) (rd : RDs K mg H' ys es) : SR K mg H0 A σ H' (ρ.set i (some (MV.own es))) := by
  have e : Ext H H' := s.ext ha
  have gt : ∀ (j : Nat) (x : Option MV), (ρ.set i (some (MV.own es)))[j]? = some x → (j = i ∧ x = some (MV.own es)) ∨ (j ≠ i ∧ ρ[j]? = some x) := fun j x h => by
    rw [List.getElem?_set] at h
    by_cases e : i = j
    · subst e
      simp only [if_true] at h
      split at h
      · exact .inl ⟨rfl, (Option.some.inj h).symm⟩
      · cases h
    · rw [if_neg e] at h
      exact .inr ⟨fun q => e q.symm, h⟩
  have ish : Iso K mg H0 A σ H' ρ := r.ins.heap (fun b C dx fs h => (s.kp b _ (fun z => by rw [z, ha] at h; cases h) h).is fun ps z => (nomatch z)) e
  have nsh : Nso K mg H0 A σ H' ρ := r.nst.heap (fun b xs na h => (s.kp b _ (fun z => by subst z; exact na.own hi hs) h).is fun ps z => (nomatch z)) e (fun b C dx fs _ h => (s.kp b _ (fun z => by rw [z, ha] at h; cases h) h).is fun ps z => (nomatch z))
  refine ⟨by rw [List.length_set]; exact r.len, fun j d h => ?_, fun j d1 h => ?_, fun j k d1 d2 b hjk h1 h2 h3 h4 => ?_, fun b o h n => ?_, r.ref, fun p hp => ?_, s.tb, nsh.env (fun j rows h => ?_) (fun j d1 c h hc na => ?_) (fun j c nn dd h => ?_), ish.env (fun j c nn dd h => ?_)⟩
  · rcases gt j _ h with ⟨rfl, q⟩ | ⟨n, h⟩
    · cases q
    · obtain ⟨v, h1, h2⟩ := r.dat j d h
      exact ⟨v, h1, h2.ext e⟩
  · rcases gt j _ h with ⟨rfl, q⟩ | ⟨n, h⟩
    · cases q
      exact ⟨a, ys, hs, h', rd, h0⟩
    · obtain ⟨b, zs, h1, h2, h3, h4⟩ := r.own j d1 h
      have nb : b ≠ a := fun z => by
        subst z
        exact r.ap j i d1 ds b n h hi h1 hs
      exact ⟨b, zs, h1, (s.kp b _ nb h2).is fun ps z => (nomatch z), h3.ext e, h4⟩
  · have back : ∀ (m : Nat) (dd : List D), (ρ.set i (some (MV.own es)))[m]? = some (some (MV.own dd)) → ∃ dd', ρ[m]? = some (some (MV.own dd')) := fun m dd h => by
      rcases gt m _ h with ⟨rfl, q⟩ | ⟨n, h⟩
      · exact ⟨ds, hi⟩
      · exact ⟨dd, h⟩
    obtain ⟨_, q1⟩ := back j d1 h1
    obtain ⟨_, q2⟩ := back k d2 h2
    exact r.ap j k _ _ b hjk q1 q2 h3 h4
  · have nb : b ≠ a := fun z => by
      subst z
      rcases h0 with z | z
      · rw [z] at h; cases h
      · exact n (List.mem_map.mpr ⟨_, z, rfl⟩)
    exact (r.fr b o h n).step fun u q => s.kp b u nb q
  · obtain ⟨o, q⟩ := r.liv p hp
    by_cases z : p.2 = a
    · rw [z]; exact ⟨_, h'⟩
    · exact (s.kp _ _ z q).any
  · rcases gt j _ h with ⟨rfl, q⟩ | ⟨n, h⟩
    · cases q
    · exact ⟨h, rfl⟩
  · rcases gt j _ h with ⟨rfl, q⟩ | ⟨n, h⟩
    · exact na.own hi hc
    · exact na.own h hc
  · rcases gt j _ h with ⟨rfl, q⟩ | ⟨n, h⟩
    · cases q
    · exact ⟨h, rfl⟩
  · rcases gt j _ h with ⟨rfl, q⟩ | ⟨n, h⟩
    · cases q
    · exact ⟨h, rfl⟩
theorem SR.freeze {i : Nat} {a : Addr} {xs : List V} {ds : List D} {o : Obj} (r : SR K mg H0 A σ H ρ) (hi : ρ[i]? = some (some (MV.own ds))) (hs : σ[i]? = some (some (V.ref a))) (ha : H a = some (.lst xs)) (h0 : H0 a = none ∨ (i, a) ∈ A)
    (rd : RDs K mg H xs ds) : SR K mg H0 A σ (upd H a (.frz o (.lst xs))) (ρ.set i (some (MV.dat (.lst ds)))) ∧ Ext H (upd H a (.frz o (.lst xs))) ∧ RD K mg (upd H a (.frz o (.lst xs))) (.ref a) (.lst ds) := by
  have e : Ext H (upd H a (.frz o (.lst xs))) := ⟨fun b zs q => by rw [upd_ne (fun z => by rw [z, ha] at q; cases q)]; exact q, fun b o u q => by rw [upd_ne (fun z => by rw [z, ha] at q; cases q)]; exact q⟩
  have rr : RD K mg (upd H a (.frz o (.lst xs))) (.ref a) (.lst ds) := .lst ⟨o, upd_same⟩ (rd.ext e)
  refine ⟨?_, e, rr⟩
  have gt : ∀ (j : Nat) (x : Option MV), (ρ.set i (some (MV.dat (.lst ds))))[j]? = some x → (j = i ∧ x = some (MV.dat (.lst ds))) ∨ (j ≠ i ∧ ρ[j]? = some x) := fun j x h => by
    rw [List.getElem?_set] at h
    by_cases e : i = j
    · subst e
      simp only [if_true] at h
      split at h
      · exact .inl ⟨rfl, (Option.some.inj h).symm⟩
      · cases h
    · rw [if_neg e] at h
      exact .inr ⟨fun q => e q.symm, h⟩
  have ish : Iso K mg H0 A σ (upd H a (.frz o (.lst xs))) ρ := r.ins.heap (fun b C dx fs h => by rw [upd_ne (fun z => by rw [z, ha] at h; cases h)]; exact h) e
  have nsh : Nso K mg H0 A σ (upd H a (.frz o (.lst xs))) ρ := r.nst.heap (fun b ys na h => by rw [upd_ne (fun z => by subst z; exact na.own hi hs)]; exact h) e (fun b C dx fs _ h => by rw [upd_ne (fun z => by rw [z, ha] at h; cases h)]; exact h)
  refine ⟨by rw [List.length_set]; exact r.len, fun j d h => ?_, fun j d1 h => ?_, fun j k d1 d2 b hjk h1 h2 h3 h4 => ?_, fun b u h n => ?_, r.ref, fun p hp => ?_, fun P hP => tabG_keep (r.tb P hP) fun o q ⟨ps, e⟩ => by rw [upd_ne (fun z => by rw [z, ha, e] at q; cases q)]; exact q, nsh.env (fun j rows h => ?_) (fun j d1 c h hc na => ?_) (fun j c nn dd h => ?_), ish.env (fun j c nn dd h => ?_)⟩
  · rcases gt j _ h with ⟨rfl, q⟩ | ⟨n, h⟩
    · cases q
      exact ⟨.ref a, hs, rr⟩
    · obtain ⟨v, h1, h2⟩ := r.dat j d h
      exact ⟨v, h1, h2.ext e⟩
  · rcases gt j _ h with ⟨rfl, q⟩ | ⟨n, h⟩
    · cases q
    · obtain ⟨b, zs, h1, h2, h3, h4⟩ := r.own j d1 h
      have nb : b ≠ a := fun z => by
        subst z
        exact r.ap j i d1 ds b n h hi h1 hs
      exact ⟨b, zs, h1, by rw [upd_ne nb]; exact h2, h3.ext e, h4⟩
  · rcases gt j _ h1 with ⟨rfl, q⟩ | ⟨n1, h1⟩
    · cases q
    · rcases gt k _ h2 with ⟨rfl, q⟩ | ⟨n2, h2⟩
      · cases q
      · exact r.ap j k _ _ b hjk h1 h2 h3 h4
  · have nb : b ≠ a := fun z => by
      subst z
      rcases h0 with z | z
      · rw [z] at h; cases h
      · exact n (List.mem_map.mpr ⟨_, z, rfl⟩)
    rw [upd_ne nb]
    exact r.fr b u h n
  · obtain ⟨u, q⟩ := r.liv p hp
    by_cases z : p.2 = a
    · rw [z]; exact ⟨_, upd_same⟩
    · exact ⟨u, by rw [upd_ne z]; exact q⟩
  · rcases gt j _ h with ⟨rfl, q⟩ | ⟨n, h⟩
    · cases q
    · exact ⟨h, rfl⟩
  · rcases gt j _ h with ⟨rfl, q⟩ | ⟨n, h⟩
    · cases q
    · exact na.own h hc
  · rcases gt j _ h with ⟨rfl, q⟩ | ⟨n, h⟩
    · cases q
    · exact ⟨h, rfl⟩
  · rcases gt j _ h with ⟨rfl, q⟩ | ⟨n, h⟩
    · cases q
    · exact ⟨h, rfl⟩
end
end ML


namespace ML
open PySem PySem.Spec PyProof.Rows L2
variable [Tabs]

theorem Inv.freeze {X : Cx} {pins : List (Addr × Obj)} {σ : L2.St} {H : Hp} {s : Shared} {a : Addr} {xs : List V} (I : L2.Inv X pins σ H s) (ha : H a = some (.lst xs)) : ∃ o, L2.Inv X pins σ (upd H a (.frz o (.lst xs))) s := by
  obtain ⟨z, its, n, r, e⟩ := I.hok a _ ha
  refine ⟨({ cls := .type "list", data := .seq its.toArray n } : Obj), ?_⟩
  have ne : ∀ b, H b = none → b ≠ a := fun b q w => by rw [w, ha] at q; cases q
  have ne2 : ∀ b u, H b = some u → (∀ ys, u ≠ .lst ys) → b ≠ a := fun b u q n w => by rw [w, ha] at q; exact n xs (Option.some.inj q).symm
  have free0 : ∀ b, H b = none → upd H a (.frz { cls := .type "list", data := .seq its.toArray n } (.lst xs)) b = none := fun b q => by rw [upd_ne (ne b q)]; exact q
  have keep0 : ∀ b u, H b = some u → (∀ ys, u ≠ .lst ys) → upd H a (.frz { cls := .type "list", data := .seq its.toArray n } (.lst xs)) b = some u := fun b u q n => by rw [upd_ne (ne2 b u q n)]; exact q
  refine ⟨I.ok, I.os, I.bare, ⟨I.base.keep, I.base.slot, fun b o q m hx => free0 b (I.base.free b o q m hx), I.base.there, fun b ys q => keep0 b _ (I.base.tups b ys q) (fun _ q => by cases q), fun b o u q => keep0 b _ (I.base.frzs b o u q) (fun _ q => by cases q), fun b ps q => ?_⟩,
    I.loc, I.cell, free0 _ I.free, fun x c q => free0 c (I.freeC x c q), fun p hp => ?_, fun b u q => ?_, I.len⟩
  · obtain ⟨more, q2⟩ := I.base.tbls b ps q
    exact ⟨more, keep0 b _ q2 (fun _ q => by cases q)⟩
  · obtain ⟨h1, h2, h3⟩ := I.pin p hp
    exact ⟨h1, free0 _ h2, h3⟩
  · by_cases hb : b = a
    · subst hb
      rw [upd_same] at q
      cases q
      exact ⟨e, z, its, n, r, e⟩
    · rw [upd_ne hb] at q
      exact (I.hok b u q).stay (fun _ _ _ r => r) (fun c q => keep0 c _ q (fun _ q => by cases q)) fun c ys q => keep0 c _ q (fun _ q => by cases q)

theorem _root_.L2.PE.imp {X : Cx} {e : Expr} {t t' : TE} (h : PE X e t) (hi : ∀ σ H Q, t' σ H Q → t σ H Q) : PE X e t' := ⟨fun pins s σ H Q I q => h.run pins s σ H Q I (hi σ H Q q)⟩
theorem _root_.L2.PT.imp {X : Cx} {e : Expr} {t t' : TT} (h : PT X e t) (hi : ∀ σ H Q, t' σ H Q → t σ H Q) : PT X e t' := ⟨fun pins s σ H Q I q => h.run pins s σ H Q I (hi σ H Q q)⟩
theorem _root_.L2.PW.imp {X : Cx} {e : Expr} {t t' : TT} (h : PW X e t) (hi : ∀ σ H Q, t' σ H Q → t σ H Q) : PW X e t' := ⟨fun wh pins s σ H Q I q => h.run wh pins s σ H Q I (hi σ H Q q)⟩
theorem _root_.L2.PA.imp {X : Cx} {e : List Expr} {t t' : TA} (h : PA X e t) (hi : ∀ σ H Q, t' σ H Q → t σ H Q) : PA X e t' := ⟨fun pos pins s σ H Q I q => h.run pos pins s σ H Q I (hi σ H Q q)⟩
theorem _root_.L2.PS.imp {X : Cx} {e : Stmt} {t t' : TS} (h : PS X e t) (hi : ∀ D σ H, t' D σ H → t D σ H) : PS X e t' := ⟨fun pins s σ H D I q => h.run pins s σ H D I (hi D σ H q)⟩
theorem _root_.L2.PSs.imp {X : Cx} {e : List Stmt} {t t' : TS} (h : PSs X e t) (hi : ∀ D σ H, t' D σ H → t D σ H) : PSs X e t' := ⟨fun pins s σ H D I q => h.run pins s σ H D I (hi D σ H q)⟩
theorem _root_.L2.PG.imp {X : Cx} {e : Expr} {t t' : TG} (h : PG X e t) (hi : ∀ v σ H Q, t' v σ H Q → t v σ H Q) : PG X e t' := ⟨fun pins s σ H v u Q I r q => h.run pins s σ H v u Q I r (hi v σ H Q q)⟩
theorem _root_.L2.PGs.imp {X : Cx} {e : List Expr} {t t' : TGs} (h : PGs X e t) (hi : ∀ v σ H Q, t' v σ H Q → t v σ H Q) : PGs X e t' := ⟨fun pins s σ H v u Q I r q => h.run pins s σ H v u Q I r (hi v σ H Q q)⟩
theorem _root_.L2.PI.imp {X : Cx} {tg e : Expr} {t t' : TI} (h : PI X tg e t) (hi : ∀ σ H Q, t' σ H Q → t σ H Q) : PI X tg e t' := ⟨fun pins s σ H Q I q => h.run pins s σ H Q I (hi σ H Q q)⟩

theorem pe_frz {X : Cx} {e : Expr} {t : TE} (h : PE X e t) :
    PE X e (fun σ H Q => t σ H fun v H1 => Q v H1 ∨ ∃ a xs, v = .ref a ∧ H1 a = some (.lst xs) ∧ ∀ o, Q v (upd H1 a (.frz o (.lst xs)))) := by
  refine ⟨fun pins s σ H Q I q => thn (h.run pins s σ H _ I q) fun u s1 ⟨v, H1, I1, r, q1⟩ => ?_⟩
  rcases q1 with q1 | ⟨a, xs, rfl, ha, q1⟩
  · exact ⟨v, H1, I1, r, q1⟩
  · obtain ⟨o, I2⟩ := Inv.freeze I1 ha
    exact ⟨_, _, I2, r, q1 o⟩

abbrev ME := En → Res (D × En)
abbrev MA := En → Res (List D × En)
abbrev MB := En → Res (Bool × En)
def ExR (K : PySem.W.Frag) (mg : Str → Option Value) (c : Str) (fs : List (Str × D)) (cls : Value) (dd : Option Addr) (H : Hp) : Prop :=
  ∃ C, mg c = some (Value.ref C) ∧ cls = .ref C ∧ match dd with
    | none => fs = []
    | some d => ∃ vs : List (Str × V), H d = some (.xd vs) ∧ vs.map (·.1) = fs.map (·.1) ∧ RDs K mg H (vs.map (·.2)) (fs.map (·.2))
structure FrA (H0 : Hp) (A : List (Nat × Addr)) (H : Hp) : Prop where
  kp : ∀ b o, H0 b = some o → b ∉ A.map (·.2) → Kp o (H b)
  tb : ∀ P, Tabs.T P → GxR.TabG H P
def wX (X : Cx) (EW : XK) (H0 : Hp) (A : List (Nat × Addr)) (c : Str) (fs : List (Str × D)) : Prop := ∀ cls dd H', ExR X.K X.mg c fs cls dd H' → FrA H0 A H' → EW cls dd H'

def rM {α β : Type} (X : Cx) (EW : XK) (H0 : Hp) (A : List (Nat × Addr)) (R : β → α → Hp → Prop) (m : En → Res (α × En)) (σ : L2.St) (H : Hp) (Q : β → Hp → Prop) : Prop :=
  ∃ ρ, SR X.K X.mg H0 A σ H ρ ∧ match m ρ with
    | .ok (d, ρ') => ∀ v H', SR X.K X.mg H0 A σ H' ρ' → Ext H H' → R v d H' → Q v H'
    | .exn c fs => wX X EW H0 A c fs
    | .stuck => False
def RE (X : Cx) : V → D → Hp → Prop := fun v d H => RD X.K X.mg H v d
def RA (X : Cx) : List V → List D → Hp → Prop := fun v d H => RDs X.K X.mg H v d
def RB : Bool → Bool → Hp → Prop := fun b c _ => b = c

structure LE (X : Cx) (EW : XK) (rf : List Nat) (e : Expr) (m : ME) : Prop where
  run : ∀ H0 A, A.map (·.1) = rf → PE X e (rM X EW H0 A (RE X) m)
structure LA (X : Cx) (EW : XK) (rf : List Nat) (es : List Expr) (m : MA) : Prop where
  run : ∀ H0 A, A.map (·.1) = rf → PA X es (rM X EW H0 A (RA X) m)
structure LT (X : Cx) (EW : XK) (rf : List Nat) (e : Expr) (m : MB) : Prop where
  run : ∀ H0 A, A.map (·.1) = rf → PT X e (rM X EW H0 A RB m)
structure LW (X : Cx) (EW : XK) (rf : List Nat) (e : Expr) (m : MB) : Prop where
  run : ∀ H0 A, A.map (·.1) = rf → PW X e (rM X EW H0 A RB m)

def mThen {α β : Type} (m : En → Res (α × En)) (k : α → En → Res (β × En)) : En → Res (β × En) := fun ρ => match m ρ with
  | .ok (a, ρ1) => k a ρ1
  | .exn c fs => .exn c fs
  | .stuck => .stuck
def mLast {α β : Type} (m : En → Res (α × En)) (g : α → Res β) : En → Res (β × En) := fun ρ => match m ρ with
  | .ok (a, ρ1) => match g a with
    | .ok b => .ok (b, ρ1)
    | .exn c fs => .exn c fs
    | .stuck => .stuck
  | .exn c fs => .exn c fs
  | .stuck => .stuck

section
variable {X : Cx} {EW : XK} {rf : List Nat} {H0 : Hp} {A : List (Nat × Addr)} {σ : L2.St} {H : Hp}
theorem rM.then {α α' β β' : Type} {R : β → α → Hp → Prop} {R' : β' → α' → Hp → Prop} {m : En → Res (α × En)} {k : α → En → Res (α' × En)} {Q : β' → Hp → Prop} (h : rM X EW H0 A R' (mThen m k) σ H Q) :
    rM X EW H0 A R m σ H fun v H1 => ∃ d, R v d H1 ∧ rM X EW H0 A R' (k d) σ H1 Q := by
  obtain ⟨ρ, r, h⟩ := h
  refine ⟨ρ, r, ?_⟩
  unfold mThen at h
  cases e : m ρ with
  | ok p =>
    obtain ⟨d, ρ1⟩ := p
    rw [e] at h
    refine fun v H1 r1 e1 rv => ⟨d, rv, ρ1, r1, ?_⟩
    simp only at h
    cases e2 : k d ρ1 with
    | ok q =>
      obtain ⟨d2, ρ2⟩ := q
      rw [e2] at h
      exact fun v2 H2 r2 x2 rv2 => h v2 H2 r2 (e1.trans x2) rv2
    | exn c fs => rw [e2] at h; exact h
    | stuck => rw [e2] at h; exact h
  | exn c fs => rw [e] at h; exact h
  | stuck => rw [e] at h; exact h
theorem rM.last {α α' β β' : Type} {R : β → α → Hp → Prop} {R' : β' → α' → Hp → Prop} {m : En → Res (α × En)} {g : α → Res α'} {Q : β' → Hp → Prop} (h : rM X EW H0 A R' (mLast m g) σ H Q)
    (hx : ∀ a c fs, g a ≠ .exn c fs) :
    rM X EW H0 A R m σ H fun v H1 => ∃ d b, R v d H1 ∧ g d = .ok b ∧ ∀ v' H', Same H1 H' → R' v' b H' → Q v' H' := by
  obtain ⟨ρ, r, h⟩ := h
  refine ⟨ρ, r, ?_⟩
  unfold mLast at h
  cases e : m ρ with
  | ok p =>
    obtain ⟨d, ρ1⟩ := p
    rw [e] at h
    refine fun v H1 r1 e1 rv => ?_
    simp only at h
    cases e2 : g d with
    | ok b =>
      rw [e2] at h
      exact ⟨d, b, rv, e2, fun v' H' s r' => h v' H' (r1.same s) (e1.trans (Ext.of_same s)) r'⟩
    | exn c fs => exact absurd e2 (hx d c fs)
    | stuck => rw [e2] at h; exact h.elim
  | exn c fs => rw [e] at h; exact h
  | stuck => rw [e] at h; exact h
theorem rM.mono {α β : Type} {R : β → α → Hp → Prop} {m : En → Res (α × En)} {Q Q' : β → Hp → Prop} (h : rM X EW H0 A R m σ H Q) (hq : ∀ v H', Q v H' → Q' v H') : rM X EW H0 A R m σ H Q' := by
  obtain ⟨ρ, r, h⟩ := h
  refine ⟨ρ, r, ?_⟩
  cases e : m ρ with
  | ok p => rw [e] at h; exact fun v H' a b c => hq _ _ (h v H' a b c)
  | exn c fs => rw [e] at h; exact h
  | stuck => rw [e] at h; exact h
theorem rM.pure {α β : Type} {R : β → α → Hp → Prop} {d : α} {Q : β → Hp → Prop} (h : rM X EW H0 A R (fun ρ => .ok (d, ρ)) σ H Q) {v : β} {H' : Hp} (s : Same H H') (r : R v d H') : Q v H' := by
  obtain ⟨ρ, r0, h⟩ := h
  exact h v H' (r0.same s) (Ext.of_same s) r
end

def eVar (i : Nat) : ME := fun ρ => match ρ[i]? with
  | some (some (.dat d)) => .ok (d, ρ)
  | some (some (.own ds)) => .ok (.lst ds, ρ.set i (some (.dat (.lst ds))))
  | _ => .stuck
def eC (d : D) : ME := fun ρ => .ok (d, ρ)
section
variable {X : Cx} {EW : XK} {rf : List Nat}
theorem le_var {i : Nat} {x : Str} {pos : Pos} (hN : X.N[i]? = some x) (hv : Vis X.env.scope x) (hd : (x == ("__debug__" : Str)) = false := by decide) (hcd : (x == ("__classdict__" : Str)) = false := by decide) :
    LE X EW rf (.Name x pos) (eVar i) := by
  refine ⟨fun H0 A hA => (pe_frz (pe_var hN hv hd hcd)).imp fun σ H Q h => ?_⟩
  obtain ⟨ρ, r, h⟩ := h
  unfold eVar at h
  cases e : ρ[i]? with
  | none => rw [e] at h; exact h.elim
  | some y =>
    rw [e] at h
    cases y with
    | none => exact h.elim
    | some z =>
      cases z with
      | dat d =>
        obtain ⟨v, h1, h2⟩ := r.dat i d e
        exact ⟨v, h1, .inl (h v H r (Ext.refl H) h2)⟩
      | own ds =>
        obtain ⟨a, xs, h1, h2, h3, h4⟩ := r.own i ds e
        refine ⟨.ref a, h1, .inr ⟨a, xs, rfl, h2, fun o => ?_⟩⟩
        obtain ⟨q1, q2, q3⟩ := r.freeze (o := o) e h1 h2 h4 h3
        exact h _ _ q1 q2 q3
      | nst rows => exact h.elim
      | ins c nn dd => exact h.elim
theorem le_const {e : Expr} {v : V} {d : D} (h : PE X e (tC v)) (r : ∀ H, RD X.K X.mg H v d) : LE X EW rf e (eC d) :=
  ⟨fun H0 A hA => h.imp fun σ H Q q => rM.pure (R := RE X) (d := d) q (Same.refl H) (r H)⟩
theorem le_int {i j pos} : LE X EW rf (.Constant (.int i) j pos) (eC (.int i)) := le_const pe_int fun _ => .int i
theorem le_bl {b j pos} : LE X EW rf (.Constant (.bool b) j pos) (eC (.bl b)) := le_const pe_bl fun _ => .bl b
theorem le_str {x j pos} : LE X EW rf (.Constant (.str x) j pos) (eC (.str x)) := le_const pe_str fun _ => .str x
theorem le_glob {x : Str} {v : V} {u : Value} {d : D} {pos : Pos} (hg : Gl X x) (hm : X.mg x = some u) (r : RelV v u) (rd : ∀ H, RD X.K X.mg H v d) (hd : (x == ("__debug__" : Str)) = false := by decide) : LE X EW rf (.Name x pos) (eC d) :=
  le_const (pe_glob hg hm r hd) rd

def aNil : MA := fun ρ => .ok ([], ρ)
def aCons (m : ME) (ms : MA) : MA := mThen m fun d => mThen ms fun ds ρ => .ok (d :: ds, ρ)
theorem la_nil : LA X EW rf [] aNil := ⟨fun H0 A hA => pa_nil.imp fun σ H Q q => rM.pure (R := RA X) (d := []) q (Same.refl H) .nil⟩
theorem la_cons {e : Expr} {es : List Expr} {m : ME} {ms : MA} (h : LE X EW rf e m) (hs : LA X EW rf es ms) (he : starEach (e :: es) X.env = (false, eval e X.env) :: starEach es X.env := by rfl) : LA X EW rf (e :: es) (aCons m ms) := by
  refine ⟨fun H0 A hA => (pa_cons (h.run H0 A hA) (hs.run H0 A hA) he).imp fun σ H Q q => ?_⟩
  refine (rM.then (R := RE X) q).mono fun v H1 ⟨d, r, q⟩ => ?_
  obtain ⟨ρ, rr, q⟩ := rM.then (R := RA X) q
  refine ⟨ρ, rr, ?_⟩
  cases e : ms ρ with
  | ok p =>
    obtain ⟨ds, ρ2⟩ := p
    rw [e] at q
    refine fun vs H2 r2 x2 rv2 => ?_
    obtain ⟨ds', rs, q⟩ := q vs H2 r2 x2 rv2
    exact rM.pure (R := RA X) (d := d :: ds') q (Same.refl H2) (.cons (RD.ext x2 r) rs)
  | exn c fs => rw [e] at q; exact q
  | stuck => rw [e] at q; exact q
def eTup (ms : MA) : ME := mLast ms fun ds => if ds.length ≤ sizeLine then .ok (.tup ds) else .stuck
theorem same_new {H : Hp} {p : Addr} (h : H p = none) (o : HO) : Same H (upd H p o) := fun b u q => by rw [upd_ne (ne_of_none q h)]; exact q
def nT {X : Cx} {pins : List (Addr × Obj)} {σ : L2.St} {H : Hp} {s : Shared} {h' : Heap} {its : List Value} {xs : List V} {t' : Nat} (I : L2.Inv X pins σ H s) (k : ∀ b u, s.heap.get? b = some u → h'.get? b = some u) (hz : xs.length ≤ sizeLine) (rv : Vals xs its)
    (at_ : h'.get? s.heap.objs.size = some { cls := .type "tuple", data := .seq its.toArray }) : L2.Inv X pins σ (upd H s.heap.objs.size (.frz { cls := .type "tuple", data := .seq its.toArray } (.tup xs))) { s with heap := h', toks := t' } :=
  I.laid k (Nat.le_refl _) ⟨at_, hz, its, rv, _, at_, rfl, _, rfl⟩
def tTupZ (t : TA) : TE := fun σ H Q => t σ H fun xs H1 => xs.length ≤ sizeLine ∧ ∀ p o, H1 p = none → o.dict = none → Q (.ref p) (upd H1 p (.frz o (.tup xs)))
theorem pe_tupZ {X : Cx} {es : List Expr} {k : Nat} {pos : Pos} {t : TA} (h : PA X es t) : PE X (.Tuple es k pos) (tTupZ t) := by
  refine ⟨fun pins s σ H Q I hq => ?_⟩
  refine wpAny_Tuple_spliced (thn (h.run pos pins s σ H _ I hq) fun us s1 ⟨xs, H1, I1, r, z, q⟩ => ⟨by rw [← r.length]; exact z, ?_⟩)
  exact ⟨.ref s1.heap.objs.size, _, nT (t' := s1.toks) I1 (fun b u e => Heap.get?_push_of_some _ e) z r (Heap.get?_push_size _ rfl), rfl, q _ _ (I1.hok.fresh (Nat.le_refl _)) rfl⟩
theorem le_tup {es : List Expr} {ms : MA} {k : Nat} {pos : Pos} (h : LA X EW rf es ms) : LE X EW rf (.Tuple es k pos) (eTup ms) := by
  refine ⟨fun H0 A hA => (pe_tupZ (h.run H0 A hA)).imp fun σ H Q q => ?_⟩
  refine (rM.last (R := RA X) q fun a c fs => by split <;> simp).mono fun vs H1 ⟨ds, b, r, hb, q⟩ => ?_
  have hl : vs.length = ds.length := RDs.length r
  by_cases hz : ds.length ≤ sizeLine
  · rw [if_pos hz] at hb
    cases hb
    exact ⟨by omega, fun p o hp hd => q _ _ (same_new hp _) (.tup (.inl ⟨o, upd_same, hd⟩) (RDs.ext (Ext.of_same (same_new hp _)) r))⟩
  · rw [if_neg hz] at hb; cases hb

def Op2 (X : Cx) (f : Value → Value → Sem Value) (g : D → D → Res D) : Prop :=
  (∀ a b c fs, g a b ≠ .exn c fs) ∧ OpR X f (fun x y H Q => ∃ dx dy d, RD X.K X.mg H x dx ∧ RD X.K X.mg H y dy ∧ g dx dy = .ok d ∧ ∀ v H', Same H H' → RD X.K X.mg H' v d → Q v H')
def Op1 (X : Cx) (f : Value → Sem Value) (g : D → Res D) : Prop :=
  (∀ a c fs, g a ≠ .exn c fs) ∧ UnR X f (fun x H Q => ∃ dx d, RD X.K X.mg H x dx ∧ g dx = .ok d ∧ ∀ v H', Same H H' → RD X.K X.mg H' v d → Q v H')
def Bn (X : Cx) (f : Value) (g : List D → Res D) : Prop :=
  (∀ a c fs, g a ≠ .exn c fs) ∧ CallR X f (fun xs H Q => ∃ ds d, RDs X.K X.mg H xs ds ∧ g ds = .ok d ∧ ∀ v H', Same H H' → RD X.K X.mg H' v d → Q v H')
def e2 (g : D → D → Res D) (ma mb : ME) : ME := mThen ma fun a => mLast mb fun b => g a b
def e1 (g : D → Res D) (ma : ME) : ME := mLast ma g
def eB (g : List D → Res D) (ms : MA) : ME := mLast ms g
theorem two {α : Type} {H0 : Hp} {A : List (Nat × Addr)} {σ : L2.St} {H : Hp} {g : D → D → Res D} {ma mb : ME} {Q : VK} (hx : ∀ a b c fs, g a b ≠ .exn c fs) (q : rM X EW H0 A (RE X) (e2 g ma mb) σ H Q) :
    rM X EW H0 A (RE X) ma σ H fun x H1 => rM X EW H0 A (RE X) mb σ H1 fun y H2 => ∃ dx dy d, RD X.K X.mg H2 x dx ∧ RD X.K X.mg H2 y dy ∧ g dx dy = .ok d ∧ ∀ v H', Same H2 H' → RD X.K X.mg H' v d → Q v H' := by
  refine (rM.then (R := RE X) q).mono fun x H1 ⟨dx, r, q⟩ => ?_
  obtain ⟨ρ, rr, q⟩ := rM.last (R := RE X) q (hx dx)
  refine ⟨ρ, rr, ?_⟩
  cases e : mb ρ with
  | ok p =>
    obtain ⟨dy, ρ2⟩ := p
    rw [e] at q
    refine fun y H2 r2 x2 ry => ?_
    obtain ⟨dy', d, ry', hd, q⟩ := q y H2 r2 x2 ry
    exact ⟨dx, dy', d, RD.ext x2 r, ry', hd, q⟩
  | exn c fs => rw [e] at q; exact q
  | stuck => rw [e] at q; exact q
theorem le_op {op : Operator} {a b : Expr} {g : D → D → Res D} {ma mb : ME} {pos : Pos} (ho : Op2 X (binaryOp op) g) (ha : LE X EW rf a ma) (hb : LE X EW rf b mb) : LE X EW rf (.BinOp a op b pos) (e2 g ma mb) :=
  ⟨fun H0 A hA => (pe_op ho.2 (ha.run H0 A hA) (hb.run H0 A hA)).imp fun σ H Q q => two (α := Unit) ho.1 q⟩
theorem le_cmp {op : CmpOp} {a b : Expr} {g : D → D → Res D} {ma mb : ME} {pos : Pos} (ho : Op2 X (compareOp op) g) (ha : LE X EW rf a ma) (hb : LE X EW rf b mb) (hm : behindInMarks op b = false) : LE X EW rf (.Compare a [op] [b] pos) (e2 g ma mb) :=
  ⟨fun H0 A hA => (pe_cmpR ho.2 (ha.run H0 A hA) (hb.run H0 A hA) hm).imp fun σ H Q q => two (α := Unit) ho.1 q⟩
theorem le_un {op : UnaryOp} {a : Expr} {g : D → Res D} {ma : ME} {pos : Pos} (ho : Op1 X (unaryOp op) g) (ha : LE X EW rf a ma) : LE X EW rf (.UnaryOp op a pos) (e1 g ma) := by
  refine ⟨fun H0 A hA => (pe_un ho.2 (ha.run H0 A hA)).imp fun σ H Q q => ?_⟩
  refine (rM.last (R := RE X) q ho.1).mono fun x H1 ⟨dx, d, r, hd, q⟩ => ⟨dx, d, r, hd, q⟩
theorem le_bn {x : Str} {id : String} {e : Expr} {es : List Expr} {p pos : Pos} {g : List D → Res D} {ms : MA} (ho : Bn X (.builtin id) g) (hg : Gl X x) (hm : X.mg x = none) (hv : bootBuiltins x = some (.builtin id)) (ha : LA X EW rf (e :: es) ms) (hn : x ≠ "__name__" := by decide)
    (hdb : (x == ("__debug__" : Str)) = false := by decide) (he : starEach (e :: es) X.env = (false, eval e X.env) :: starEach es X.env := by rfl) (hpl : (backTo pos (starEach es X.env)).any (·.1) = false := by rfl) :
    LE X EW rf (.Call (.Name x p) (e :: es) [] pos) (eB g ms) := by
  refine ⟨fun H0 A hA => (pe_callB ho.2 hg hm hv (ha.run H0 A hA) hn hdb he hpl).imp fun σ H Q q => ?_⟩
  exact (rM.last (R := RA X) q ho.1).mono fun x H1 ⟨dx, d, r, hd, q⟩ => ⟨dx, d, r, hd, q⟩
theorem le_bnT {x : Str} {T : String} {e : Expr} {es : List Expr} {p pos : Pos} {g : List D → Res D} {ms : MA} (ho : Bn X (.type T) g) (hg : Gl X x) (hm : X.mg x = none) (hv : bootBuiltins x = some (.type T)) (ha : LA X EW rf (e :: es) ms) (hn : x ≠ "__name__" := by decide)
    (hdb : (x == ("__debug__" : Str)) = false := by decide) (he : starEach (e :: es) X.env = (false, eval e X.env) :: starEach es X.env := by rfl) (hpl : (backTo pos (starEach es X.env)).any (·.1) = false := by rfl) :
    LE X EW rf (.Call (.Name x p) (e :: es) [] pos) (eB g ms) := by
  refine ⟨fun H0 A hA => (pe_callTy ho.2 hg hm hv (ha.run H0 A hA) hn hdb he hpl).imp fun σ H Q q => ?_⟩
  exact (rM.last (R := RA X) q ho.1).mono fun x H1 ⟨dx, d, r, hd, q⟩ => ⟨dx, d, r, hd, q⟩

def asB (d : D) : Res Bool := match d with
  | .bl b => .ok b
  | _ => .stuck
def bV (m : ME) : MB := mLast m asB
def bAnd (a b : MB) : MB := mThen a fun c => if c = true then b else fun ρ => .ok (false, ρ)
def bOr (a b : MB) : MB := mThen a fun c => if c = true then fun ρ => .ok (true, ρ) else b
def bNot (a : MB) : MB := mLast a fun c => .ok (!c)
theorem asB_ok {d : D} {b : Bool} (h : asB d = .ok b) : d = .bl b := by
  unfold asB at h
  split at h
  · cases h; rfl
  · cases h
theorem RE.bl {v : V} {b : Bool} {H : Hp} (r : RE X v (.bl b) H) : v = .bl b := by
  have r' : RD X.K X.mg H v (.bl b) := r
  cases r'; rfl
theorem asB_nx (a : D) (c : Str) (fs : List (Str × D)) : asB a ≠ .exn c fs := by unfold asB; split <;> simp
theorem tB_of {H0 : Hp} {A : List (Nat × Addr)} {σ : L2.St} {H : Hp} {m : ME} {Q : Bool → Hp → Prop} (q : rM X EW H0 A RB (bV m) σ H Q) : rM X EW H0 A (RE X) m σ H fun x H1 => ∃ c, x = .bl c ∧ Q c H1 := by
  refine (rM.last (R := RE X) q asB_nx).mono fun v H1 ⟨d, b, r, hb, q⟩ => ?_
  have e := asB_ok hb
  subst e
  exact ⟨b, RE.bl r, q b H1 (Same.refl H1) rfl⟩
theorem lt_cmp {op : CmpOp} {a b : Expr} {g : D → D → Res D} {ma mb : ME} {pos : Pos} (ho : Op2 X (compareOp op) g) (ha : LE X EW rf a ma) (hb : LE X EW rf b mb) (hm : behindInMarks op b = false) : LT X EW rf (.Compare a [op] [b] pos) (bV (e2 g ma mb)) :=
  ⟨fun H0 A hA => (pt_cmpR ho.2 (ha.run H0 A hA) (hb.run H0 A hA) hm).imp fun σ H Q q => two (α := Unit) ho.1 (tB_of q)⟩
theorem lt_val {e : Expr} {m : ME} (h : LE X EW rf e m) (he : ∀ whole, isTrue e X.env whole = (do let v ← whole; standAt e.pos; holding [v] (truthy v)) := by intro _; rfl) : LT X EW rf e (bV m) :=
  ⟨fun H0 A hA => (pt_val (h.run H0 A hA) he).imp fun σ H Q q => tB_of q⟩
theorem LW.lt {e : Expr} {m : MB} (h : LW X EW rf e m) : LT X EW rf e m := ⟨fun H0 A hA => (h.run H0 A hA).pt⟩
theorem lw_and1 {a : Expr} {m : MB} {pos : Pos} (h : LT X EW rf a m) : LW X EW rf (.BoolOp .And [a] pos) m := ⟨fun H0 A hA => pw_and1 (h.run H0 A hA)⟩
theorem lw_or1 {a : Expr} {m : MB} {pos : Pos} (h : LT X EW rf a m) : LW X EW rf (.BoolOp .Or [a] pos) m := ⟨fun H0 A hA => pw_or1 (h.run H0 A hA)⟩
theorem lw_and {a b : Expr} {rest : List Expr} {ma mb : MB} {pos : Pos} (ha : LT X EW rf a ma) (hb : LW X EW rf (.BoolOp .And (b :: rest) pos) mb) : LW X EW rf (.BoolOp .And (a :: b :: rest) pos) (bAnd ma mb) := by
  refine ⟨fun H0 A hA => (pw_and (ha.run H0 A hA) (hb.run H0 A hA)).imp fun σ H Q q => ?_⟩
  refine (rM.then (R := RB) q).mono fun c H1 ⟨d, r, q⟩ => ?_
  have e : c = d := r
  subst e
  cases c with
  | true => simpa using q
  | false =>
    simp only [Bool.false_eq_true, if_false] at q ⊢
    exact rM.pure (R := RB) (d := false) q (Same.refl H1) rfl
theorem lw_or {a b : Expr} {rest : List Expr} {ma mb : MB} {pos : Pos} (ha : LT X EW rf a ma) (hb : LW X EW rf (.BoolOp .Or (b :: rest) pos) mb) : LW X EW rf (.BoolOp .Or (a :: b :: rest) pos) (bOr ma mb) := by
  refine ⟨fun H0 A hA => (pw_or (ha.run H0 A hA) (hb.run H0 A hA)).imp fun σ H Q q => ?_⟩
  refine (rM.then (R := RB) q).mono fun c H1 ⟨d, r, q⟩ => ?_
  have e : c = d := r
  subst e
  cases c with
  | false => simpa using q
  | true =>
    simp only [if_true] at q ⊢
    exact rM.pure (R := RB) (d := true) q (Same.refl H1) rfl
theorem lt_not {a : Expr} {ma : MB} {pos : Pos} (ha : LT X EW rf a ma) : LT X EW rf (.UnaryOp .Not a pos) (bNot ma) := by
  refine ⟨fun H0 A hA => (pt_not (ha.run H0 A hA)).imp fun σ H Q q => ?_⟩
  refine (rM.last (R := RB) q fun a c fs => by simp).mono fun c H1 ⟨d, b, r, hb, q⟩ => ?_
  have e : c = d := r
  subst e
  cases hb
  exact q _ H1 (Same.refl H1) rfl
theorem le_one {op} {a : Expr} {m : ME} {pos : Pos} (h : LE X EW rf a m) : LE X EW rf (.BoolOp op [a] pos) m := ⟨fun H0 A hA => pe_one (h.run H0 A hA)⟩
def vAnd (ma mb : ME) : ME := mThen (bV ma) fun c => if c = true then mb else fun ρ => .ok (.bl false, ρ)
def vOr (ma mb : ME) : ME := mThen (bV ma) fun c => if c = true then fun ρ => .ok (.bl true, ρ) else mb
theorem le_and {a b : Expr} {rest : List Expr} {ma mb : ME} {pos : Pos} (ha : LE X EW rf a ma) (hb : LE X EW rf (.BoolOp .And (b :: rest) pos) mb) : LE X EW rf (.BoolOp .And (a :: b :: rest) pos) (vAnd ma mb) := by
  refine ⟨fun H0 A hA => (pe_and (ha.run H0 A hA) (hb.run H0 A hA)).imp fun σ H Q q => ?_⟩
  refine (tB_of (rM.then (R := RB) q)).mono fun x H1 ⟨c, e, d, r, q⟩ => ⟨c, e, ?_⟩
  have e2 : c = d := r
  subst e2
  cases c with
  | true => simpa using q
  | false =>
    simp only [Bool.false_eq_true, if_false] at q ⊢
    exact rM.pure (R := RE X) (d := .bl false) q (Same.refl H1) (RD.bl false)
theorem le_or {a b : Expr} {rest : List Expr} {ma mb : ME} {pos : Pos} (ha : LE X EW rf a ma) (hb : LE X EW rf (.BoolOp .Or (b :: rest) pos) mb) : LE X EW rf (.BoolOp .Or (a :: b :: rest) pos) (vOr ma mb) := by
  refine ⟨fun H0 A hA => (pe_or (ha.run H0 A hA) (hb.run H0 A hA)).imp fun σ H Q q => ?_⟩
  refine (tB_of (rM.then (R := RB) q)).mono fun x H1 ⟨c, e, d, r, q⟩ => ⟨c, e, ?_⟩
  have e2 : c = d := r
  subst e2
  cases c with
  | false => simpa using q
  | true =>
    simp only [if_true] at q ⊢
    exact rM.pure (R := RE X) (d := .bl true) q (Same.refl H1) (RD.bl true)
def vNot (ma : ME) : ME := mLast (bV ma) fun c => .ok (.bl (!c))
theorem le_not {a : Expr} {ma : ME} {pos : Pos} (ha : LE X EW rf a ma) : LE X EW rf (.UnaryOp .Not a pos) (vNot ma) := by
  refine ⟨fun H0 A hA => (pe_not (ha.run H0 A hA)).imp fun σ H Q q => ?_⟩
  refine (tB_of (rM.last (R := RB) q fun a c fs => by simp)).mono fun x H1 ⟨c, e, d, b, r, hb, q⟩ => ⟨c, e, ?_⟩
  have e2 : c = d := r
  subst e2
  cases hb
  exact q _ H1 (Same.refl H1) (RD.bl _)
def eIf (mc : MB) (ma mb : ME) : ME := mThen mc fun c => if c = true then ma else mb
end
end ML


namespace ML
open PySem PySem.Spec PyProof.Rows L2
variable [Tabs]

section
variable {K : PySem.W.Frag} {mg : Str → Option Value} {H0 H H' : Hp} {A : List (Nat × Addr)} {σ : L2.St} {ρ : En} {a : Addr} {xs ys : List V}
theorem ext_upd_lst {u : HO} (h : H a = some (.lst xs)) : Ext H (upd H a u) :=
  ⟨fun b zs q => by rw [upd_ne (fun z => by rw [z, h] at q; cases q)]; exact q, fun b o u q => by rw [upd_ne (fun z => by rw [z, h] at q; cases q)]; exact q⟩
theorem SR.notA (r : SR K mg H0 A σ H ρ) (h : H a = none) : a ∉ A.map (·.2) := fun hm => by
  obtain ⟨p, hp, rfl⟩ := List.mem_map.mp hm
  obtain ⟨o, q⟩ := r.liv p hp
  rw [h] at q; cases q
theorem SR.track (r : SR K mg H0 A σ H ρ) (h : H a = none) (o : HO) : SR K mg (upd H0 a o) A σ (upd H a o) ρ := by
  have s := same_new h o
  have r2 := r.same s
  refine ⟨r2.len, r2.dat, fun i ds q => ?_, r2.ap, fun b u q n => ?_, r2.ref, r2.liv, r2.tb, (r.nst.entry (H0' := upd H0 a o) (fun b na => by
    rcases na.obj with ⟨xs, hx⟩ | ⟨C, dx, fs, hx⟩ <;> (rw [upd_ne (fun z => by rw [z, h] at hx; cases hx)]; exact na.new))).heap (fun b xs _ h => s b _ h) (Ext.of_same s) (fun b C dx fs _ h => s b _ h), (r.ins.entry (H0' := upd H0 a o) (fun b q ⟨C, dx, fs, hx⟩ => by rw [upd_ne (fun z => by rw [z, h] at hx; cases hx)]; exact q)).heap (fun b C dx fs h => s b _ h) (Ext.of_same s)⟩
  · obtain ⟨b, zs, h1, h2, h3, h4⟩ := r.own i ds q
    have nb : b ≠ a := fun z => by rw [z, h] at h2; cases h2
    refine ⟨b, zs, h1, s _ _ h2, h3.ext (Ext.of_same s), ?_⟩
    rcases h4 with h4 | h4
    · exact .inl (by rw [upd_ne nb]; exact h4)
    · exact .inr h4
  · by_cases hb : b = a
    · subst hb; rw [upd_same] at q ⊢; exact .of q
    · rw [upd_ne hb] at q ⊢; exact r.fr b u q n
theorem SR.untrack (r : SR K mg (upd H0 a (.lst xs)) A σ H ρ) (h0 : H0 a = none) : SR K mg H0 A σ H ρ := by
  refine ⟨r.len, r.dat, fun i ds q => ?_, r.ap, fun b u q n => r.fr b u (by rw [upd_ne (fun z => by rw [z, h0] at q; cases q)]; exact q) n, r.ref, r.liv, r.tb, r.nst.entry fun b na => (upd_none na.new).2, r.ins.entry fun b q _ => (upd_none q).2⟩
  obtain ⟨b, zs, h1, h2, h3, h4⟩ := r.own i ds q
  refine ⟨b, zs, h1, h2, h3, ?_⟩
  rcases h4 with h4 | h4
  · by_cases hb : b = a
    · rw [hb, upd_same] at h4; cases h4
    · rw [upd_ne hb] at h4; exact .inl h4
  · exact .inr h4
theorem SR.unowned (r : SR K mg (upd H0 a (.lst xs)) A σ H ρ) (hA : a ∉ A.map (·.2)) : ∀ (j : Nat) (ds' : List D), ρ[j]? = some (some (MV.own ds')) → σ[j]? ≠ some (some (V.ref a)) := fun j ds q z => by
  obtain ⟨b, zs, h1, h2, h3, h4⟩ := r.own j ds q
  rw [z] at h1
  have hb : a = b := by injection h1 with h1; injection h1 with h1; injection h1
  subst hb
  rcases h4 with h4 | h4
  · rw [upd_same] at h4; cases h4
  · exact hA (List.mem_map.mpr ⟨_, h4, rfl⟩)
theorem SR.freezeNew {o : Obj} {ds : List D} (r : SR K mg (upd H0 a (.lst xs)) A σ H ρ) (hA : a ∉ A.map (·.2)) (h0 : H0 a = none) (rd : RDs K mg H xs ds) :
    SR K mg H0 A σ (upd H a (.frz o (.lst xs))) ρ ∧ Ext H (upd H a (.frz o (.lst xs))) ∧ RD K mg (upd H a (.frz o (.lst xs))) (.ref a) (.lst ds) := by
  have h : H a = some (.lst xs) := r.frl (a := a) upd_same hA
  have e : Ext H (upd H a (.frz o (.lst xs))) := ext_upd_lst h
  refine ⟨?_, e, .lst ⟨o, upd_same⟩ (rd.ext e)⟩
  refine ⟨r.len, fun i d q => ?_, fun i ds q => ?_, r.ap, fun b u q n => ?_, r.ref, fun p hp => ?_, fun P hP => tabG_keep (r.tb P hP) fun o q ⟨ps, e⟩ => by rw [upd_ne (fun z => by rw [z, h, e] at q; cases q)]; exact q, (r.nst.heap (fun b zs na h => by rw [upd_ne (upd_none na.new).1]; exact h) e (fun b C dx fs na h => by rw [upd_ne (upd_none na.new).1]; exact h)).entry fun b na => (upd_none na.new).2, (r.ins.heap (fun b C dx fs hh => by rw [upd_ne (fun z => by rw [z, h] at hh; cases hh)]; exact hh) e).entry fun b q _ => (upd_none q).2⟩
  · obtain ⟨v, h1, h2⟩ := r.dat i d q
    exact ⟨v, h1, h2.ext e⟩
  · obtain ⟨b, zs, h1, h2, h3, h4⟩ := r.own i ds q
    have nb : b ≠ a := fun z => r.unowned hA i ds q (z ▸ h1)
    refine ⟨b, zs, h1, by rw [upd_ne nb]; exact h2, h3.ext e, ?_⟩
    rcases h4 with h4 | h4
    · rw [upd_ne nb] at h4; exact .inl h4
    · exact .inr h4
  · have nb : b ≠ a := fun z => by rw [z, h0] at q; cases q
    rw [upd_ne nb]
    exact r.fr b u (by rw [upd_ne nb]; exact q) n
  · obtain ⟨u, q⟩ := r.liv p hp
    by_cases z : p.2 = a
    · rw [z]; exact ⟨_, upd_same⟩
    · exact ⟨u, by rw [upd_ne z]; exact q⟩
end

def rO (X : Cx) (EW : XK) (H0 : Hp) (A : List (Nat × Addr)) (m : MA) : TE := fun σ H Q => ∃ ρ, SR X.K X.mg H0 A σ H ρ ∧ match m ρ with
  | .ok (ds, ρ') => ∀ a xs H', SR X.K X.mg (upd H0 a (.lst xs)) A σ H' ρ' → H0 a = none → a ∉ A.map (·.2) → RDs X.K X.mg H' xs ds → Ext H H' → Q (.ref a) H'
  | .exn c fs => wX X EW H0 A c fs
  | .stuck => False
structure LO (X : Cx) (EW : XK) (rf : List Nat) (e : Expr) (m : MA) : Prop where
  run : ∀ H0 A, A.map (·.1) = rf → PE X e (rO X EW H0 A m)
def oE (m : MA) : ME := mLast m fun ds => .ok (.lst ds)
section
variable {X : Cx} {EW : XK} {rf : List Nat}
theorem LO.le {e : Expr} {m : MA} (h : LO X EW rf e m) : LE X EW rf e (oE m) := by
  refine ⟨fun H0 A hA => (pe_frz (h.run H0 A hA)).imp fun σ H Q q => ?_⟩
  obtain ⟨ρ, r, q⟩ := q
  refine ⟨ρ, r, ?_⟩
  unfold oE mLast at q
  cases em : m ρ with
  | ok p =>
    obtain ⟨ds, ρ1⟩ := p
    rw [em] at q
    simp only at q
    refine fun a xs H' r1 h0 hA' rd x1 => .inr ⟨a, xs, rfl, r1.frl (a := a) upd_same hA', fun o => ?_⟩
    obtain ⟨r2, x2, rd2⟩ := r1.freezeNew (o := o) hA' h0 rd
    exact q _ _ r2 (x1.trans x2) rd2
  | exn c fs => rw [em] at q; exact q
  | stuck => rw [em] at q; exact q
def oLst (ms : MA) : MA := mLast ms fun ds => if ds.length ≤ sizeLine then .ok ds else .stuck
theorem lo_lst {es : List Expr} {ms : MA} {pos : Pos} (h : LA X EW rf es ms) : LO X EW rf (.List es pos) (oLst ms) := by
  refine ⟨fun H0 A hA => (pe_lst (h.run H0 A hA)).imp fun σ H Q q => ?_⟩
  obtain ⟨ρ, r, q⟩ := q
  refine ⟨ρ, r, ?_⟩
  unfold oLst mLast at q
  cases em : ms ρ with
  | ok p =>
    obtain ⟨ds, ρ1⟩ := p
    rw [em] at q
    simp only at q
    refine fun vs H1 r1 x1 rv => ?_
    have hl : vs.length = ds.length := RDs.length rv
    by_cases hz : ds.length ≤ sizeLine
    · rw [if_pos hz] at q
      refine ⟨by omega, fun p hp => ?_⟩
      exact q p vs _ (r1.track hp _) (r1.fresh hp) (r1.notA hp) (RDs.ext (Ext.of_same (same_new hp _)) rv) (x1.trans (Ext.of_same (same_new hp _)))
    · rw [if_neg hz] at q
      exact q.elim
  | exn c fs => rw [em] at q; exact q
  | stuck => rw [em] at q; exact q

def atD (ds : List D) (k : Int) : Res D := match atI ds k with
  | some d => .ok d
  | none => .stuck
def slotS (ρ : En) (i : Nat) : Option (List D) := match ρ[i]? with
  | some (some (.own ds)) => some ds
  | some (some (.dat (.lst ds))) => some ds
  | some (some (.dat (.tup ds))) => some ds
  | some (some (.dat (.klst ds))) => some ds
  | _ => none
theorem SR.seqAt {K : PySem.W.Frag} {mg : Str → Option Value} {H0 H : Hp} {A : List (Nat × Addr)} {σ : L2.St} {ρ : En} (r : SR K mg H0 A σ H ρ) {i : Nat} {ds : List D} (h : slotS ρ i = some ds) :
    ∃ a xs, σ[i]? = some (some (V.ref a)) ∧ (SqL K H a xs ∨ SqT K H a xs) ∧ RDs K mg H xs ds := by
  unfold slotS at h
  split at h
  · rename_i ds' e
    cases h
    obtain ⟨a, xs, h1, h2, h3, _⟩ := r.own i _ e
    exact ⟨a, xs, h1, .inl (.inl (.inl h2)), h3⟩
  · rename_i ds' e
    cases h
    obtain ⟨v, h1, h2⟩ := r.dat i _ e
    cases h2 with
    | lst h r => exact ⟨_, _, h1, .inl h.seq, r⟩
  · rename_i ds' e
    cases h
    obtain ⟨v, h1, h2⟩ := r.dat i _ e
    cases h2 with
    | tup h r => exact ⟨_, _, h1, .inr h.seq, r⟩
  · rename_i ds' e
    cases h
    obtain ⟨v, h1, h2⟩ := r.dat i _ e
    cases h2 with
    | klst h r => exact ⟨_, _, h1, .inl h.seq, r⟩
  · cases h
theorem RDs.atI {K : PySem.W.Frag} {mg : Str → Option Value} {H : Hp} {xs : List V} {ds : List D} {k : Int} {d : D} (r : RDs K mg H xs ds) (h : L2.atI ds k = some d) : ∃ v, L2.atI xs k = some v ∧ RD K mg H v d := by
  unfold L2.atI at h ⊢
  rw [r.length]
  cases e : ixN ds.length k with
  | none => rw [e] at h; cases h
  | some j =>
    rw [e] at h
    exact r.get h
def mSlot {α : Type} (i : Nat) (m : En → Res (α × En)) : En → Res (α × En) := fun ρ => match slotS ρ i with
  | some _ => m ρ
  | none => .stuck
def ixEnd (i : Nat) (d : D) (ρ : En) : Res (D × En) := match d with
  | .int k => (match slotS ρ i with
    | some ds => (match atI ds k with
      | some d => .ok (d, ρ)
      | none => .stuck)
    | none => .stuck)
  | _ => .stuck
def eIxV (i : Nat) (m : ME) : ME := mSlot i (mThen m (ixEnd i))
theorem RE.int {v : V} {k : Int} {H : Hp} (r : RE X v (.int k) H) : v = .int k := by
  have r' : RD X.K X.mg H v (.int k) := r
  cases r'; rfl
theorem mSlot_some {α : Type} {H0 : Hp} {A : List (Nat × Addr)} {σ : L2.St} {H : Hp} {β : Type} {R : β → α → Hp → Prop} {i : Nat} {m : En → Res (α × En)} {Q : β → Hp → Prop} (q : rM X EW H0 A R (mSlot i m) σ H Q) :
    (∃ a xs, σ[i]? = some (some (V.ref a)) ∧ (SqL X.K H a xs ∨ SqT X.K H a xs)) ∧ rM X EW H0 A R m σ H Q := by
  obtain ⟨ρ, r, q⟩ := q
  unfold mSlot at q
  cases e : slotS ρ i with
  | none => rw [e] at q; exact q.elim
  | some ds =>
    rw [e] at q
    obtain ⟨a, xs, h1, h2, h3⟩ := r.seqAt e
    exact ⟨⟨a, xs, h1, h2⟩, ρ, r, q⟩
theorem le_ixV {i : Nat} {x : Str} {b : Expr} {m : ME} {px pos : Pos} (hN : X.N[i]? = some x) (hv : Vis X.env.scope x) (hb : LE X EW rf b m) (hs : PlainIx b) (hd : (x == ("__debug__" : Str)) = false := by decide) (hcd : (x == ("__classdict__" : Str)) = false := by decide) :
    LE X EW rf (.Subscript (.Name x px) b pos) (eIxV i m) := by
  refine ⟨fun H0 A hA => (pe_ix (IxR.or ix_list ix_tup) (pe_var hN hv hd hcd) (hb.run H0 A hA) hs).imp fun σ H Q q => ?_⟩
  obtain ⟨⟨a, xs, ha, _⟩, q⟩ := mSlot_some q
  refine ⟨.ref a, ha, (rM.then (R := RE X) q).mono fun y H1 ⟨d, rd, q⟩ => ?_⟩
  obtain ⟨ρ, r, q⟩ := q
  unfold ixEnd at q
  cases d with
  | int k =>
    simp only at q
    have ey := RE.int rd
    cases es : slotS ρ i with
    | some ds =>
      rw [es] at q
      simp only at q
      cases ea : L2.atI ds k with
      | some dd =>
        rw [ea] at q
        obtain ⟨a', xs', h1, h2, h3⟩ := r.seqAt es
        rw [ha] at h1
        cases h1
        obtain ⟨v, h4, h5⟩ := h3.atI ea
        have fin : Q v H1 := q v H1 r (Ext.refl _) h5
        rcases h2 with h2 | h2
        · exact .inl ⟨a, xs', k, v, rfl, ey, h2, h4, fin⟩
        · exact .inr ⟨a, xs', k, v, rfl, ey, h2, h4, fin⟩
      | none => rw [ea] at q; exact q.elim
    | none => rw [es] at q; exact q.elim
  | _ => exact q.elim
def eLenV (i : Nat) : ME := fun ρ => match slotS ρ i with
  | some ds => .ok (.int (ds.length : Int), ρ)
  | none => .stuck
theorem le_lenV {i : Nat} {x y : Str} {px p pos : Pos} (hN : X.N[i]? = some x) (hv : Vis X.env.scope x) (hg : Gl X y) (hm : X.mg y = none) (hb : bootBuiltins y = some (.builtin "len")) (hn : y ≠ "__name__" := by decide)
    (hdb : (y == ("__debug__" : Str)) = false := by decide) (hd : (x == ("__debug__" : Str)) = false := by decide) (hcd : (x == ("__classdict__" : Str)) = false := by decide)
    (he : starEach [.Name x px] X.env = (false, eval (.Name x px) X.env) :: starEach [] X.env := by rfl) (hpl : (backTo pos (starEach [] X.env)).any (·.1) = false := by rfl) :
    LE X EW rf (.Call (.Name y p) [.Name x px] [] pos) (eLenV i) := by
  refine ⟨fun H0 A hA => (pe_callB call_len_seq hg hm hb (pa_cons (pe_var hN hv hd hcd) pa_nil he) hn hdb he hpl).imp fun σ H Q q => ?_⟩
  obtain ⟨ρ, r, q⟩ := q
  unfold eLenV at q
  cases es : slotS ρ i with
  | some ds =>
    rw [es] at q
    obtain ⟨a, xs, h1, h2, h3⟩ := r.seqAt es
    refine ⟨.ref a, h1, a, xs, rfl, h2, ?_⟩
    rw [h3.length]
    exact q _ H r (Ext.refl H) (RD.int _)
  | none => rw [es] at q; exact q.elim

abbrev MG := D → En → Res En
abbrev MGs := List D → En → Res En
def Off (vs : List Nat) (σ σ' : L2.St) : Prop := σ'.length = σ.length ∧ ∀ j, j ∉ vs → σ'[j]? = σ[j]?
theorem Off.refl (σ : L2.St) : Off [] σ σ := ⟨rfl, fun _ _ => rfl⟩
theorem Off.trans {vs ws : List Nat} {σ σ1 σ2 : L2.St} (a : Off vs σ σ1) (b : Off ws σ1 σ2) : Off (vs ++ ws) σ σ2 := ⟨b.1.trans a.1, fun j h => by
  rw [List.mem_append] at h
  exact (b.2 j fun z => h (.inr z)).trans (a.2 j fun z => h (.inl z))⟩
theorem Off.set (σ : L2.St) (i : Nat) (x : Option V) : Off [i] σ (σ.set i x) := ⟨List.length_set, fun j h => List.getElem?_set_ne fun z => h (by simp [z])⟩
def rG {α β : Type} (X : Cx) (H0 : Hp) (A : List (Nat × Addr)) (R : β → α → Hp → Prop) (vs : List Nat) (g : α → En → Res En) : β → L2.St → Hp → (L2.St → Hp → Prop) → Prop := fun v σ H Q =>
  ∃ ρ d, SR X.K X.mg H0 A σ H ρ ∧ R v d H ∧ match g d ρ with
    | .ok ρ' => ∀ σ' H', SR X.K X.mg H0 A σ' H' ρ' → Ext H H' → Off vs σ σ' → Q σ' H'
    | _ => False
structure LG (X : Cx) (rf : List Nat) (vs : List Nat) (tg : Expr) (g : MG) : Prop where
  run : ∀ H0 A, A.map (·.1) = rf → PG X tg (rG X H0 A (RE X) vs g)
structure LGs (X : Cx) (rf : List Nat) (vs : List Nat) (tg : List Expr) (g : MGs) : Prop where
  run : ∀ H0 A, A.map (·.1) = rf → PGs X tg (rG X H0 A (RA X) vs g)
def gN (i : Nat) : MG := fun d ρ => .ok (ρ.set i (some (.dat d)))
def gsNil : MGs := fun ds ρ => match ds with
  | [] => .ok ρ
  | _ => .stuck
def gsCons (g : MG) (gs : MGs) : MGs := fun ds ρ => match ds with
  | d :: r => (match g d ρ with
    | .ok ρ1 => gs r ρ1
    | _ => .stuck)
  | [] => .stuck
def gT (n : Nat) (gs : MGs) : MG := fun d ρ => match d with
  | .tup ds => if ds.length = n then gs ds ρ else .stuck
  | _ => .stuck
theorem lg_name {i : Nat} {x : Str} {pos : Pos} (hN : X.N.Nodup) (hi : X.N[i]? = some x) (hx : Loc X.env.scope x) (hr : i ∉ rf) (hf : X.fn x = true ∨ X.env.scope.names.lookup x = some .local := by first | exact .inl rfl | exact .inr rfl | assumption) :
    LG X rf [i] (.Name x pos) (gN i) := by
  refine ⟨fun H0 A hA => (pg_name hN hi hx hf).imp fun v σ H Q q => ?_⟩
  obtain ⟨ρ, d, r, rd, q⟩ := q
  exact q _ H (r.put (by rw [hA]; exact hr) rd) (Ext.refl H) (Off.set σ i _)
theorem lgs_nil : LGs X rf [] [] gsNil := by
  refine ⟨fun H0 A hA => pgs_nil.imp fun v σ H Q q => ?_⟩
  obtain ⟨ρ, d, r, rd, q⟩ := q
  have rd' : RDs X.K X.mg H v d := rd
  cases rd' with
  | nil => exact ⟨rfl, q σ H r (Ext.refl H) (Off.refl σ)⟩
  | cons a b => exact q.elim
theorem lgs_cons {vs ws : List Nat} {e : Expr} {es : List Expr} {g : MG} {gs : MGs} (h1 : LG X rf vs e g) (h2 : LGs X rf ws es gs) (hs : (assignEach (e :: es) X.env).map (·.2) = assign e X.env :: (assignEach es X.env).map (·.2) := by rfl) :
    LGs X rf (vs ++ ws) (e :: es) (gsCons g gs) := by
  refine ⟨fun H0 A hA => (pgs_cons (h1.run H0 A hA) (h2.run H0 A hA) hs).imp fun v σ H Q q => ?_⟩
  obtain ⟨ρ, d, r, rd, q⟩ := q
  have rd' : RDs X.K X.mg H v d := rd
  cases rd' with
  | nil => exact q.elim
  | cons a b =>
    rename_i x dd xs ds
    refine ⟨x, xs, rfl, ρ, dd, r, a, ?_⟩
    unfold gsCons at q
    simp only at q
    cases eg : g dd ρ with
    | ok ρ1 =>
      rw [eg] at q
      simp only at q
      intro σ1 H1 r1 x1 o1
      refine ⟨ρ1, ds, r1, RDs.ext x1 b, ?_⟩
      cases eg2 : gs ds ρ1 with
      | ok ρ2 =>
        rw [eg2] at q
        exact fun σ2 H2 r2 x2 o2 => q σ2 H2 r2 (x1.trans x2) (o1.trans o2)
      | exn c fs => rw [eg2] at q; exact q.elim
      | stuck => rw [eg2] at q; exact q.elim
    | exn c fs => rw [eg] at q; exact q.elim
    | stuck => rw [eg] at q; exact q.elim
theorem lg_tup {vs : List Nat} {es : List Expr} {k : Nat} {gs : MGs} {n : Nat} {pos : Pos} (hc : X.calm = true) (h : LGs X rf vs es gs) (hn : (assignEach es X.env).length = n := by rfl) (hst : (assignEach es X.env).findIdx? (·.1) = none := by rfl) :
    LG X rf vs (.Tuple es k pos) (gT n gs) := by
  refine ⟨fun H0 A hA => (pg_tup hc (h.run H0 A hA) hn hst).imp fun v σ H Q q => ?_⟩
  obtain ⟨ρ, d, r, rd, q⟩ := q
  unfold gT at q
  cases d with
  | tup ds =>
    simp only at q
    have rd' : RD X.K X.mg H v (.tup ds) := rd
    cases rd' with
    | tup h1 h2 =>
      by_cases hl : ds.length = n
      · rw [if_pos hl] at q
        exact ⟨_, _, rfl, h1.seq, h2.length.trans hl, ρ, ds, r, h2, q⟩
      · rw [if_neg hl] at q
        exact q.elim
  | _ => exact q.elim
def slotO (ρ : En) (i : Nat) : Option (List D) := match ρ[i]? with
  | some (some (.own ds)) => some ds
  | _ => none
def setEnd (i : Nat) (d : D) (k : D) (ρ : En) : Res En := match k with
  | .int n => (match slotO ρ i with
    | some ds => (match ixN ds.length n with
      | some j => .ok (ρ.set i (some (.own (ds.set j d))))
      | none => .stuck)
    | none => .stuck)
  | _ => .stuck
def gIx (i : Nat) (m : ME) : MG := fun d ρ => match slotO ρ i with
  | some _ => (match m ρ with
    | .ok (k, ρ1) => setEnd i d k ρ1
    | _ => .stuck)
  | none => .stuck
theorem slotO_eq {ρ : En} {i : Nat} {ds : List D} (h : slotO ρ i = some ds) : ρ[i]? = some (some (MV.own ds)) := by
  unfold slotO at h
  split at h
  · rename_i e; cases h; exact e
  · cases h
theorem lg_ix {i : Nat} {x : Str} {b : Expr} {m : ME} {px pos : Pos} (hN : X.N[i]? = some x) (hv : Vis X.env.scope x) (hb : LE X E0 rf b m)
    (ha : ∀ v, assign (.Subscript (.Name x px) b pos) X.env v = (do let ov ← holding [v] (eval (.Name x px) X.env); let iv ← holding [v, ov] (eval b X.env); standAt pos; holding [v, ov, iv] (setItem ov iv v); release [v, ov, iv] []) := by intro _; rfl)
    (hd : (x == ("__debug__" : Str)) = false := by decide) (hcd : (x == ("__classdict__" : Str)) = false := by decide) : LG X rf [] (.Subscript (.Name x px) b pos) (gIx i m) := by
  refine ⟨fun H0 A hA => (pg_sub (pe_var hN hv hd hcd) (hb.run H0 A hA) set_list ha).imp fun v σ H Q q => ?_⟩
  obtain ⟨ρ, d, r, rd, q⟩ := q
  unfold gIx at q
  cases es : slotO ρ i with
  | none => rw [es] at q; exact q.elim
  | some ds0 =>
    rw [es] at q
    simp only at q
    obtain ⟨a, xs, h1, h2, h3, h4⟩ := r.own i ds0 (slotO_eq es)
    refine ⟨.ref a, h1, ρ, r, ?_⟩
    cases em : m ρ with
    | ok p =>
      obtain ⟨k, ρ1⟩ := p
      rw [em] at q
      simp only at q
      refine fun y H1 r1 x1 ry => ?_
      unfold setEnd at q
      cases k with
      | int n =>
        simp only at q
        have ey := RE.int ry
        cases es2 : slotO ρ1 i with
        | none => rw [es2] at q; exact q.elim
        | some ds =>
          rw [es2] at q
          simp only at q
          obtain ⟨a', xs', g1, g2, g3, g4⟩ := r1.own i ds (slotO_eq es2)
          rw [h1] at g1
          cases g1
          cases ej : ixN ds.length n with
          | none => rw [ej] at q; exact q.elim
          | some j =>
            rw [ej] at q
            refine ⟨a, xs', n, j, rfl, ey, g2, by rw [g3.length]; exact ej, ?_⟩
            have e : Ext H1 (upd H1 a (.lst (xs'.set j v))) := ext_upd_lst g2
            refine q σ _ (r1.mut (slotO_eq es2) h1 g2 g4 (fun b o nb hb => by rw [upd_ne nb]; exact hb) upd_same ?_) (x1.trans e) (Off.refl σ)
            exact RDs.ext e (RDs.set (RD.ext x1 rd) j g3)
      | _ => exact q.elim
    | exn c fs => rw [em] at q; exact q.elim
    | stuck => rw [em] at q; exact q.elim
end
end ML


namespace ML
open PySem PySem.Spec PyProof.Rows L2
variable [Tabs]

inductive Fl where
  | nx (ρ : En) | rt (d : D) (ρ : En) | bk (ρ : En) | ct (ρ : En)
abbrev MS := En → Res Fl
def endS (X : Cx) (EW : XK) (H0 : Hp) (A : List (Nat × Addr)) (H : Hp) (Dn : Ends) : Res Fl → Prop
  | .ok (.nx ρ') => ∀ σ' H', SR X.K X.mg H0 A σ' H' ρ' → Ext H H' → Dn.nx σ' H'
  | .ok (.rt d ρ') => ∀ v σ' H', SR X.K X.mg H0 A σ' H' ρ' → Ext H H' → RD X.K X.mg H' v d → Dn.rt v H'
  | .ok (.bk ρ') => ∀ σ' H', SR X.K X.mg H0 A σ' H' ρ' → Ext H H' → Dn.bk σ' H'
  | .ok (.ct ρ') => ∀ σ' H', SR X.K X.mg H0 A σ' H' ρ' → Ext H H' → Dn.ct σ' H'
  | .exn c fs => wX X EW H0 A c fs
  | .stuck => False
def rS (X : Cx) (EW : XK) (H0 : Hp) (A : List (Nat × Addr)) (m : MS) : TS := fun Dn σ H => ∃ ρ, SR X.K X.mg H0 A σ H ρ ∧ endS X EW H0 A H Dn (m ρ)
structure LS (X : Cx) (EW : XK) (rf : List Nat) (st : Stmt) (m : MS) : Prop where
  run : ∀ H0 A, A.map (·.1) = rf → PS X st (rS X EW H0 A m)
structure LSs (X : Cx) (EW : XK) (rf : List Nat) (st : List Stmt) (m : MS) : Prop where
  run : ∀ H0 A, A.map (·.1) = rf → PSs X st (rS X EW H0 A m)
section
variable {X : Cx} {EW : XK} {rf : List Nat} {H0 : Hp} {A : List (Nat × Addr)} {H H1 : Hp} {Dn : Ends}
theorem endS.ext {r : Res Fl} (e : Ext H H1) (h : endS X EW H0 A H Dn r) : endS X EW H0 A H1 Dn r := by
  cases r with
  | ok f => cases f with
    | nx ρ => exact fun σ' H' a b => h σ' H' a (e.trans b)
    | rt d ρ => exact fun v σ' H' a b c => h v σ' H' a (e.trans b) c
    | bk ρ => exact fun σ' H' a b => h σ' H' a (e.trans b)
    | ct ρ => exact fun σ' H' a b => h σ' H' a (e.trans b)
  | exn c fs => exact h
  | stuck => exact h
def sThen {α : Type} (m : En → Res (α × En)) (k : α → MS) : MS := fun ρ => match m ρ with
  | .ok (a, ρ1) => k a ρ1
  | .exn c fs => .exn c fs
  | .stuck => .stuck
theorem rS.then {α β : Type} {R : β → α → Hp → Prop} {m : En → Res (α × En)} {k : α → MS} {σ : L2.St} (h : rS X EW H0 A (sThen m k) Dn σ H) :
    rM X EW H0 A R m σ H fun v H1 => ∃ d ρ, R v d H1 ∧ SR X.K X.mg H0 A σ H1 ρ ∧ endS X EW H0 A H1 Dn (k d ρ) := by
  obtain ⟨ρ, r, h⟩ := h
  refine ⟨ρ, r, ?_⟩
  unfold sThen at h
  cases e : m ρ with
  | ok p =>
    obtain ⟨d, ρ1⟩ := p
    rw [e] at h
    exact fun v H1 r1 e1 rv => ⟨d, ρ1, rv, r1, h.ext e1⟩
  | exn c fs => rw [e] at h; exact h
  | stuck => rw [e] at h; exact h
def sNil : MS := fun ρ => .ok (.nx ρ)
def sSeq (a b : MS) : MS := fun ρ => match a ρ with
  | .ok (.nx ρ1) => b ρ1
  | r => r
theorem lss_nil : LSs X EW rf [] sNil := by
  refine ⟨fun H0 A hA => pss_nil.imp fun D σ H ⟨ρ, r, q⟩ => ?_⟩
  exact q σ H r (Ext.refl H)
theorem lss_cons {st : Stmt} {rest : List Stmt} {a b : MS} (h1 : LS X EW rf st a) (h2 : LSs X EW rf rest b) : LSs X EW rf (st :: rest) (sSeq a b) := by
  refine ⟨fun H0 A hA => (pss_cons (h1.run H0 A hA) (h2.run H0 A hA)).imp fun D σ H ⟨ρ, r, q⟩ => ⟨ρ, r, ?_⟩⟩
  unfold sSeq at q
  cases e : a ρ with
  | ok f =>
    rw [e] at q
    cases f with
    | nx ρ1 => exact fun σ' H' r1 x1 => ⟨ρ1, r1, q.ext x1⟩
    | rt d ρ1 => exact q
    | bk ρ1 => exact q
    | ct ρ1 => exact q
  | exn c fs => rw [e] at q; exact q
  | stuck => rw [e] at q; exact q
theorem lss_one {st : Stmt} {a : MS} (h1 : LS X EW rf st a) : LSs X EW rf [st] a := ⟨fun H0 A hA => pss_one (h1.run H0 A hA)⟩
def sBrk : MS := fun ρ => .ok (.bk ρ)
def sCnt : MS := fun ρ => .ok (.ct ρ)
theorem ls_break {pos} : LS X EW rf (.Break pos) sBrk := ⟨fun H0 A hA => ps_break.imp fun D σ H ⟨ρ, r, q⟩ => q σ H r (Ext.refl H)⟩
def sExpr (m : ME) : MS := sThen m fun _ ρ => .ok (.nx ρ)
theorem ls_expr {e : Expr} {m : ME} {pos : Pos} (h : LE X EW rf e m) (hs : swapsWith e none pos.line X.env = pure false := by rfl) : LS X EW rf (.Expr e pos) (sExpr m) := by
  refine ⟨fun H0 A hA => (ps_expr (h.run H0 A hA) hs).imp fun D σ H q => ?_⟩
  exact (rS.then (R := RE X) q).mono fun v H1 ⟨d, ρ, rd, r, q⟩ => q σ H1 r (Ext.refl H1)
def sRet (m : ME) : MS := sThen m fun d ρ => .ok (.rt d ρ)
theorem ls_ret {e : Expr} {m : ME} {pos : Pos} (h : LE X EW rf e m) : LS X EW rf (.Return (some e) pos) (sRet m) := by
  refine ⟨fun H0 A hA => (ps_ret (h.run H0 A hA)).imp fun D σ H q => ?_⟩
  exact (rS.then (R := RE X) q).mono fun v H1 ⟨d, ρ, rd, r, q⟩ => q v σ H1 r (Ext.refl H1) rd
def sRetN : MS := fun ρ => .ok (.rt .non ρ)
theorem ls_retN {pos} : LS X EW rf (.Return none pos) sRetN := ⟨fun H0 A hA => ps_retN.imp fun D σ H ⟨ρ, r, q⟩ => q .non σ H r (Ext.refl H) .non⟩
def sIf (c : MB) (a b : MS) : MS := sThen c fun t => if t = true then a else b
theorem ls_if {c : Expr} {a b : List Stmt} {mc : MB} {ma mb : MS} {pos : Pos} (hc : LT X EW rf c mc) (ha : LSs X EW rf a ma) (hb : LSs X EW rf b mb) : LS X EW rf (.If c a b pos) (sIf mc ma mb) := by
  refine ⟨fun H0 A hA => (ps_if (hc.run H0 A hA) (ha.run H0 A hA) (hb.run H0 A hA)).imp fun D σ H q => ?_⟩
  refine (rS.then (R := RB) q).mono fun t H1 ⟨d, ρ, rd, r, q⟩ => ?_
  have e : t = d := rd
  subst e
  cases t with
  | true => exact ⟨ρ, r, q⟩
  | false => exact ⟨ρ, r, q⟩
def sSet (i : Nat) (m : ME) : MS := sThen m fun d ρ => .ok (.nx (ρ.set i (some (.dat d))))
theorem ls_set {i : Nat} {x : Str} {e : Expr} {m : ME} {pos pos' : Pos} (hN : X.N.Nodup) (hi : X.N[i]? = some x) (hx : Loc X.env.scope x) (hr : i ∉ rf) (h : LE X EW rf e m) (hs : swapsWith e (some (.Name x pos')) pos.line X.env = pure false := by rfl)
    (hf : X.fn x = true ∨ X.env.scope.names.lookup x = some .local := by first | exact .inl rfl | exact .inr rfl | assumption) : LS X EW rf (.Assign [.Name x pos'] e pos) (sSet i m) := by
  refine ⟨fun H0 A hA => (ps_set hN hi hx (h.run H0 A hA) hs hf).imp fun D σ H q => ?_⟩
  exact (rS.then (R := RE X) q).mono fun v H1 ⟨d, ρ, rd, r, q⟩ => q _ H1 (r.put (by rw [hA]; exact hr) rd) (Ext.refl H1)
def sAsg (m : ME) (g : MG) : MS := sThen m fun d ρ => match g d ρ with
  | .ok ρ1 => .ok (.nx ρ1)
  | _ => .stuck
theorem ls_asg {vs : List Nat} {tg e : Expr} {m : ME} {g : MG} {pos : Pos} (h : LE X EW rf e m) (hg : LG X rf vs tg g) (hs : swapsWithSole [tg] e pos.line X.env = pure false := by rfl) (hw : swappedStores [tg] e X.env = pure none := by rfl) (h1 : (assignEach [tg] X.env).map (·.2) = [assign tg X.env] := by rfl) :
    LS X EW rf (.Assign [tg] e pos) (sAsg m g) := by
  refine ⟨fun H0 A hA => (ps_asg (h.run H0 A hA) (hg.run H0 A hA) hs hw h1).imp fun D σ H q => ?_⟩
  refine (rS.then (R := RE X) q).mono fun v H1 ⟨d, ρ, rd, r, q⟩ => ⟨ρ, d, r, rd, ?_⟩
  cases e : g d ρ with
  | ok ρ1 =>
    rw [e] at q
    exact fun σ' H' r' x' _ => q σ' H' r' x'
  | exn c fs => rw [e] at q; exact q.elim
  | stuck => rw [e] at q; exact q.elim
def sOwn (i : Nat) (m : MA) : MS := sThen m fun ds ρ => .ok (.nx (ρ.set i (some (.own ds))))
theorem ls_own {i : Nat} {x : Str} {e : Expr} {m : MA} {pos pos' : Pos} (hN : X.N.Nodup) (hi : X.N[i]? = some x) (hx : Loc X.env.scope x) (hr : i ∉ rf) (h : LO X EW rf e m) (hs : swapsWith e (some (.Name x pos')) pos.line X.env = pure false := by rfl)
    (hf : X.fn x = true ∨ X.env.scope.names.lookup x = some .local := by first | exact .inl rfl | exact .inr rfl | assumption) : LS X EW rf (.Assign [.Name x pos'] e pos) (sOwn i m) := by
  refine ⟨fun H0 A hA => (ps_set hN hi hx (h.run H0 A hA) hs hf).imp fun D σ H q => ?_⟩
  obtain ⟨ρ, r, q⟩ := q
  refine ⟨ρ, r, ?_⟩
  unfold sOwn sThen at q
  cases em : m ρ with
  | ok p =>
    obtain ⟨ds, ρ1⟩ := p
    rw [em] at q
    refine fun a xs H' r1 h0 hA' rd x1 => ?_
    have ha := r1.frl (a := a) upd_same hA'
    refine q _ H' ?_ x1
    exact (r1.untrack h0).putOwn (by rw [hA]; exact hr) ha rd h0 (r1.unowned hA') r1.nst
  | exn c fs => rw [em] at q; exact q
  | stuck => rw [em] at q; exact q
def appEnd (i : Nat) (d : D) (ρ : En) : Res Fl := match slotO ρ i with
  | some ds => if ds.length < sizeLine then .ok (.nx (ρ.set i (some (.own (ds ++ [d]))))) else .stuck
  | none => .stuck
def sApp (i : Nat) (m : ME) : MS := fun ρ => match slotO ρ i with
  | some _ => sThen m (appEnd i) ρ
  | none => .stuck
theorem ls_app {i : Nat} {x : Str} {e : Expr} {m : ME} {px apos cpos pos : Pos} (hN : X.N[i]? = some x) (hv : Vis X.env.scope x) (h : LE X EW rf e m) (hd : (x == ("__debug__" : Str)) = false := by decide) (hcd : (x == ("__classdict__" : Str)) = false := by decide)
    (hbase : attributeBase (.Name x px) "append" X.env (eval (.Name x px) X.env) = eval (.Name x px) X.env := by rfl)
    (hfew : ((backTo cpos (starEach [e] X.env)).all (fun x => !x.1) && (backToKw cpos (keywordEach [] X.env)).all (fun x => x.1.isSome) && decide (([e] : List Expr).length + ([] : List Keyword).length + (if ([] : List Keyword).isEmpty then 0 else 1) < 30)) = true := by rfl)
    (hline : (apos.endLine == cpos.line) = true := by rfl) (hs : starEach [e] X.env = (false, eval e X.env) :: starEach [] X.env := by rfl) (hplain : (backTo cpos (starEach [] X.env)).any (·.1) = false := by rfl)
    (hsw : swapsWith (.Call (.Attribute (.Name x px) "append" apos) [e] [] cpos) none pos.line X.env = pure false := by rfl) :
    LS X EW rf (.Expr (.Call (.Attribute (.Name x px) "append" apos) [e] [] cpos) pos) (sApp i m) := by
  refine ⟨fun H0 A hA => (ps_expr (pe_bm PySem.F.plainAttrs_list PySem.F.slot_list_append PySem.F.type_list_append mt_append (pe_var hN hv hd hcd) (pa_cons (h.run H0 A hA) pa_nil hs) hbase hfew hline hs hplain) hsw).imp fun D σ H q => ?_⟩
  obtain ⟨ρ, r, q⟩ := q
  unfold sApp at q
  cases es : slotO ρ i with
  | none => rw [es] at q; exact q.elim
  | some ds0 =>
    rw [es] at q
    obtain ⟨a, xs, h1, h2, h3, h4⟩ := r.own i ds0 (slotO_eq es)
    refine ⟨.ref a, h1, .inl ⟨rfl, xs, .inl (.inl h2)⟩, ?_⟩
    refine (rS.then (R := RE X) ⟨ρ, r, q⟩).mono fun v H1 ⟨d, ρ1, rd, r1, q⟩ => ?_
    unfold appEnd at q
    cases es1 : slotO ρ1 i with
    | none => rw [es1] at q; exact q.elim
    | some ds =>
      rw [es1] at q
      simp only at q
      obtain ⟨a', xs', g1, g2, g3, g4⟩ := r1.own i ds (slotO_eq es1)
      rw [h1] at g1
      cases g1
      by_cases hz : ds.length < sizeLine
      · rw [if_pos hz] at q
        have e : Ext H1 (upd H1 a (.lst (xs' ++ [v]))) := ext_upd_lst g2
        refine ⟨a, xs', v, rfl, rfl, g2, by rw [g3.length]; exact hz, ?_⟩
        exact q σ _ (r1.mut (slotO_eq es1) h1 g2 g4 (fun b o nb hb => by rw [upd_ne nb]; exact hb) upd_same (RDs.ext e (g3.snoc rd))) e
      · rw [if_neg hz] at q
        exact q.elim
def sAug (g : D → D → Res D) (i : Nat) (m : ME) : MS := fun ρ => match ρ[i]? with
  | some (some (.dat x)) => sThen m (fun d ρ1 => match g x d with
    | .ok z => .ok (.nx (ρ1.set i (some (.dat z))))
    | _ => .stuck) ρ
  | _ => .stuck
def IterOk (X : Cx) (J : It) (ds : List D) (H : Hp) : Prop := ∀ H2, Ext H H2 → (∀ i, i < ds.length → J.go i H2) ∧ (∀ i x H3 d, ds[i]? = some d → J.yld i H2 x H3 → Same H2 H3 ∧ RD X.K X.mg H3 x d) ∧ J.stop ds.length H2
structure LI (X : Cx) (EW : XK) (rf : List Nat) (tg iter : Expr) (m : MA) : Prop where
  run : ∀ H0 A, A.map (·.1) = rf → PI X tg iter (rM X EW H0 A (IterOk X) m)
def loop (g : MG) (body : MS) : List D → MS
  | [], ρ => .ok (.nx ρ)
  | d :: ds, ρ => match g d ρ with
    | .ok ρ1 => (match body ρ1 with
      | .ok (.nx ρ2) => loop g body ds ρ2
      | .ok (.ct ρ2) => loop g body ds ρ2
      | .ok (.bk ρ2) => .ok (.nx ρ2)
      | .ok (.rt d ρ2) => .ok (.rt d ρ2)
      | .exn c fs => .exn c fs
      | .stuck => .stuck)
    | _ => .stuck
def sFor (m : MA) (g : MG) (body : MS) : MS := sThen m fun ds => loop g body ds
theorem loop_run {J : It} {ds : List D} {g : MG} {vs : List Nat} {mb : MS} {σ : L2.St} {ρ : En} {tg : TG} {tb : TS} (ij : IterOk X J ds H) (r : SR X.K X.mg H0 A σ H ρ) (hg : ∀ v σ H Q, rG X H0 A (RE X) vs g v σ H Q → tg v σ H Q) (hb : ∀ Dn σ H, rS X EW H0 A mb Dn σ H → tb Dn σ H)
    (q : endS X EW H0 A H Dn (loop g mb ds ρ)) :
    ∃ W : Nat → Nat → L2.St → Hp → Prop, (∃ m, W 0 m σ H) ∧ ∀ i m σ H, W i m σ H → (J.stop i H ∧ Dn.nx σ H) ∨ (J.go i H ∧ ∃ N : L2.St → Hp → Prop, (∀ σ' H', N σ' H' → ∃ m', m' < m ∧ W (i + 1) m' σ' H') ∧ ∀ x H', J.yld i H x H' → tg x σ H' fun σ2 H2 => tb { Dn with nx := N, ct := N, bk := Dn.nx } σ2 H2) := by
  refine ⟨fun i m σ1 H1 => m + i = ds.length ∧ ∃ ρ1, SR X.K X.mg H0 A σ1 H1 ρ1 ∧ Ext H H1 ∧ endS X EW H0 A H1 Dn (loop g mb (ds.drop i) ρ1), ⟨ds.length, by omega, ρ, r, Ext.refl H, q⟩, fun i m σ1 H1 hW => ?_⟩
  obtain ⟨hm, ρ1, r1, x1, q1⟩ := hW
  obtain ⟨go, yld, stop⟩ := ij H1 x1
  by_cases hi : i < ds.length
  · refine .inr ⟨go i hi, fun σ2 H2 => ∃ ρ2, SR X.K X.mg H0 A σ2 H2 ρ2 ∧ Ext H H2 ∧ endS X EW H0 A H2 Dn (loop g mb (ds.drop (i + 1)) ρ2), fun σ' H' hN => ⟨m - 1, by omega, by omega, hN⟩, fun x H' hy => ?_⟩
    have hd : ds[i]? = some ds[i] := List.getElem?_eq_getElem hi
    obtain ⟨s, rd⟩ := yld i x H' ds[i] hd hy
    rw [List.drop_eq_getElem_cons hi] at q1
    unfold loop at q1
    refine hg _ _ _ _ ⟨ρ1, ds[i], r1.same s, rd, ?_⟩
    cases eg : g ds[i] ρ1 with
    | ok ρ2 =>
      rw [eg] at q1
      simp only at q1
      refine fun σ2 H2 r2 x2 _ => hb _ _ _ ⟨ρ2, r2, ?_⟩
      have x02 : Ext H1 H2 := (Ext.of_same s).trans x2
      cases eb : mb ρ2 with
      | ok f =>
        rw [eb] at q1
        cases f with
        | nx ρ3 => exact fun σ3 H3 r3 x3 => ⟨ρ3, r3, x1.trans (x02.trans x3), q1.ext (x02.trans x3)⟩
        | ct ρ3 => exact fun σ3 H3 r3 x3 => ⟨ρ3, r3, x1.trans (x02.trans x3), q1.ext (x02.trans x3)⟩
        | bk ρ3 => exact fun σ3 H3 r3 x3 => q1 σ3 H3 r3 (x02.trans x3)
        | rt d ρ3 => exact fun v σ3 H3 r3 x3 rv => q1 v σ3 H3 r3 (x02.trans x3) rv
      | exn c fs => rw [eb] at q1; exact q1
      | stuck => rw [eb] at q1; exact q1
    | exn c fs => rw [eg] at q1; exact q1.elim
    | stuck => rw [eg] at q1; exact q1.elim
  · have ei : i = ds.length := by omega
    subst ei
    refine .inl ⟨stop, ?_⟩
    rw [List.drop_eq_nil_of_le (Nat.le_refl _)] at q1
    exact q1 σ1 H1 r1 (Ext.refl H1)
theorem ls_for {vs : List Nat} {tg iter : Expr} {body : List Stmt} {m : MA} {g : MG} {mb : MS} {pos : Pos} (hp : PassesOwn (model X.prog X.w) X.A X.env X.xe) (hc : X.calm = true) (hi : LI X EW rf tg iter m) (hg : LG X rf vs tg g) (hb : LSs X EW rf body mb)
    (hs : ∀ x, foldedSetIterable iter X.env x = pure x := by intro _; rfl) : LS X EW rf (.For tg iter body [] pos) (sFor m g mb) := by
  refine ⟨fun H0 A hA => (ps_for hp hc (hi.run H0 A hA) (hg.run H0 A hA) (hb.run H0 A hA) hs).imp fun D σ H q => ?_⟩
  refine (rS.then (R := IterOk X) q).mono fun J H1 ⟨ds, ρ, ij, r, q⟩ => ?_
  exact loop_run ij r (fun _ _ _ _ h => h) (fun _ _ _ h => h) q
theorem iterOk_list {a : Addr} {xs : List V} {ds : List D} (h : FzL H a xs) (r : RDs X.K X.mg H xs ds) : IterOk X (Itl X.K a) ds H := by
  refine fun H2 e => ?_
  have h2 : SqL X.K H2 a xs := (h.ext e).seq
  have r2 := RDs.ext e r
  refine ⟨fun i hi => ?_, fun i x H3 d hd hy => ?_, ⟨xs, h2, by rw [r.length]; exact Nat.le_refl _⟩⟩
  · have : i < xs.length := by rw [r.length]; exact hi
    exact ⟨xs, _, h2, List.getElem?_eq_getElem this⟩
  · obtain ⟨rfl, hy⟩ := hy
    obtain ⟨v, h3, h4⟩ := r2.get hd
    have := hy xs h2
    rw [h3] at this
    cases this
    exact ⟨Same.refl _, h4⟩
theorem iterOk_tup {a : Addr} {xs : List V} {ds : List D} (h : TpT X.K H a xs) (r : RDs X.K X.mg H xs ds) : IterOk X (Itt X.K a) ds H := by
  refine fun H2 e => ?_
  have h2 : SqT X.K H2 a xs := (TpT.ext e h).seq
  have r2 := RDs.ext e r
  refine ⟨fun i hi => ?_, fun i x H3 d hd hy => ?_, ⟨xs, h2, by rw [r.length]; exact Nat.le_refl _⟩⟩
  · have : i < xs.length := by rw [r.length]; exact hi
    exact ⟨xs, _, h2, List.getElem?_eq_getElem this⟩
  · obtain ⟨rfl, hy⟩ := hy
    obtain ⟨v, h3, h4⟩ := r2.get hd
    have := hy xs h2
    rw [h3] at this
    cases this
    exact ⟨Same.refl _, h4⟩
def asAny (d : D) : Res (List D) := match d with
  | .lst ds => .ok ds
  | .tup ds => .ok ds
  | _ => .stuck
theorem nx_any (a : D) (c : Str) (fs : List (Str × D)) : asAny a ≠ .exn c fs := by unfold asAny; split <;> simp
theorem pi_any {tg l : Expr} {tl : TE} (hl : PE X l tl) : PI X tg l (fun σ H R => tl σ H fun x H1 => ∃ a, x = .ref a ∧ ((∃ xs, SqL X.K H1 a xs ∧ R (Itl X.K a) H1) ∨ (∃ xs, SqT X.K H1 a xs ∧ R (Itt X.K a) H1))) := by
  refine ⟨fun pins s σ H R I h => ?_⟩
  refine thn (hl.run pins s σ H _ I h) fun v s1 ⟨x, H1, I1, r1, q1⟩ => ?_
  obtain ⟨a, e, q1⟩ := q1
  subst e
  cases r1
  rcases q1 with ⟨xs, hq, q⟩ | ⟨xs, hq, q⟩
  · obtain ⟨its, rv, p, hz⟩ := I1.list hq
    refine wpAny_pyIter_list p.isList ?_
    refine ⟨s1.heap.objs.size, [s1.heap.objs.size], _, _, H1, rfl, I1.kept (t' := s1.toks) fun b o e => Heap.get?_push_of_some _ e, turn_list a _, ⟨_, Heap.get?_push_size _ rfl, rfl, rfl⟩, fun b hb => ?_, q⟩
    have e : b = s1.heap.objs.size := by simpa using hb
    subst e
    exact I1.fpOk (Nat.le_refl _) (I1.hok.fresh (Nat.le_refl _))
  · obtain ⟨its, rv, p, hz⟩ := I1.tuple hq
    refine wpAny_pyIter_tuple (show s1.heap.IsTuple a its.toArray from p) ?_
    refine ⟨s1.heap.objs.size, [s1.heap.objs.size], _, _, H1, rfl, I1.kept (t' := s1.toks) fun b o e => Heap.get?_push_of_some _ e, turn_tuple a _, ⟨_, Heap.get?_push_size _ rfl, rfl, rfl⟩, fun b hb => ?_, q⟩
    have e : b = s1.heap.objs.size := by simpa using hb
    subst e
    exact I1.fpOk (Nat.le_refl _) (I1.hok.fresh (Nat.le_refl _))
theorem li_any {tg e : Expr} {m : ME} (h : LE X EW rf e m) : LI X EW rf tg e (mLast m asAny) := by
  refine ⟨fun H0 A hA => (pi_any (h.run H0 A hA)).imp fun σ H R q => ?_⟩
  refine (rM.last (R := RE X) q nx_any).mono fun v H1 ⟨d, ds, rd, hd, q⟩ => ?_
  unfold asAny at hd
  split at hd
  · cases hd
    have rd' : RD X.K X.mg H1 v (.lst ds) := rd
    cases rd' with
    | lst h1 h2 => exact ⟨_, rfl, .inl ⟨_, h1.seq, q _ H1 (Same.refl H1) (iterOk_list h1 h2)⟩⟩
  · cases hd
    have rd' : RD X.K X.mg H1 v (.tup ds) := rd
    cases rd' with
    | tup h1 h2 => exact ⟨_, rfl, .inr ⟨_, h1.seq, q _ H1 (Same.refl H1) (iterOk_tup h1 h2)⟩⟩
  · cases hd
def mRng (n : Int) (lo : Int) : List D := (List.range n.toNat).map fun (i : Nat) => D.int (lo + (i : Int))
def rng1 (ds : List D) : Res (List D) := match ds with
  | [.int j] => if -(2 ^ 62) ≤ j ∧ j < 2 ^ 62 then .ok (mRng j 0) else .stuck
  | _ => .stuck
def rng2 (ds : List D) : Res (List D) := match ds with
  | [.int i, .int j] => if -(2 ^ 62) ≤ i ∧ i < 2 ^ 62 ∧ -(2 ^ 62) ≤ j ∧ j < 2 ^ 62 then .ok (mRng (j - i) i) else .stuck
  | _ => .stuck
theorem iterOk_rng {lo : Int} {n : Nat} {ds : List D} (h : ds = (List.range n).map fun (i : Nat) => D.int (lo + (i : Int))) : IterOk X (Itr lo n) ds H := by
  subst h
  refine fun H2 e => ⟨fun i hi => show i < n by simpa using hi, fun i x H3 d hd hy => ?_, show n ≤ _ by simp⟩
  obtain ⟨rfl, rfl⟩ := hy
  rw [List.getElem?_map] at hd
  cases hr : (List.range n)[i]? with
  | none => rw [hr] at hd; cases hd
  | some j =>
    rw [hr] at hd
    have : j = i := by
      obtain ⟨h1, h2⟩ := List.getElem?_eq_some_iff.mp hr
      rw [List.getElem_range] at h2
      exact h2.symm
    subst this
    cases hd
    exact ⟨Same.refl _, .int _⟩
theorem nx_rng1 (a : List D) (c : Str) (fs : List (Str × D)) : rng1 a ≠ .exn c fs := by unfold rng1; split <;> (try split) <;> simp
theorem nx_rng2 (a : List D) (c : Str) (fs : List (Str × D)) : rng2 a ≠ .exn c fs := by unfold rng2; split <;> (try split) <;> simp
theorem li_rng1 {tg a : Expr} {m : MA} {p pos : Pos} (hg : Gl X "range") (hm : X.mg "range" = none) (h : LA X EW rf [a] m) (hs : starEach [a] X.env = [(false, eval a X.env)] := by rfl) : LI X EW rf tg (.Call (.Name "range" p) [a] [] pos) (mLast m rng1) := by
  refine ⟨fun H0 A hA => (pi_range1 hg hm (h.run H0 A hA) hs).imp fun σ H R q => ?_⟩
  refine (rM.last (R := RA X) q nx_rng1).mono fun v H1 ⟨d, ds, rd, hd, q⟩ => ?_
  unfold rng1 at hd
  split at hd
  · rename_i j
    have rd' : RDs X.K X.mg H1 v [.int j] := rd
    cases rd' with
    | cons r t =>
      cases r
      cases t
      split at hd
      · rename_i hj
        cases hd
        exact ⟨j, rfl, hj.1, hj.2, q _ H1 (Same.refl H1) (iterOk_rng rfl)⟩
      · cases hd
  · cases hd
theorem li_rng2 {tg a b : Expr} {m : MA} {p pos : Pos} (hg : Gl X "range") (hm : X.mg "range" = none) (h : LA X EW rf [a, b] m) (hs : starEach [a, b] X.env = [(false, eval a X.env), (false, eval b X.env)] := by rfl) (hs2 : starEach [b] X.env = [(false, eval b X.env)] := by rfl) :
    LI X EW rf tg (.Call (.Name "range" p) [a, b] [] pos) (mLast m rng2) := by
  refine ⟨fun H0 A hA => (pi_range2 hg hm (h.run H0 A hA) hs hs2).imp fun σ H R q => ?_⟩
  refine (rM.last (R := RA X) q nx_rng2).mono fun v H1 ⟨d, ds, rd, hd, q⟩ => ?_
  unfold rng2 at hd
  split at hd
  · rename_i i j
    have rd' : RDs X.K X.mg H1 v [.int i, .int j] := rd
    cases rd' with
    | cons r t =>
      cases r
      cases t with
      | cons r t =>
        cases r
        cases t
        split at hd
        · rename_i hj
          cases hd
          exact ⟨i, j, rfl, ⟨hj.1, hj.2.1, hj.2.2.1, hj.2.2.2⟩, q _ H1 (Same.refl H1) (iterOk_rng rfl)⟩
        · cases hd
  · cases hd
end
end ML


namespace ML
open PySem PySem.Spec PyProof.Rows L2
variable [Tabs]

structure Cok (X : Cx) (EW : XK) (k : Nat) : Prop where
  hc : X.calm = true
  hg : X.A.guards = some []
  hr : Room k X.A
  nd : X.N.Nodup
  hp : Passes (L2.CX X.prog X.w) X EW
  ow : PassesOwn (model X.prog X.w) X.A X.env X.xe
  tk : Takes X (fun cls d _ H => EW cls d H)
theorem Cok.blk {X : Cx} {EW : XK} {k : Nat} (c : Cok X EW k) (s : Shared) (H : Hp) (scope : Scope) (cenv : PySem.Env) (fp : List Addr) : Cok (X.blk s H scope cenv fp) E0 k :=
  ⟨c.hc, c.hg, c.hr, c.nd, passL, PassesOwn.never, fun u s' ⟨_, _, _, _, _, _, _, _, _, _, _, _, _, _, _, _, z⟩ => z.elim⟩
theorem Cok.mono {X : Cx} {EW : XK} {j k : Nat} (c : Cok X EW k) (h : j ≤ k) : Cok X EW j := ⟨c.hc, c.hg, c.hr.mono h, c.nd, c.hp, c.ow, c.tk⟩

structure FnG (P : Program) (w : World) (K : PySem.W.Frag) (mg : Str → Option Value) (base : Heap) (k : Nat) (f : Addr) (fd : FuncData) (ps : List Str) (sp : Sp) : Prop where
  len : ∀ vs H Q E, sp vs H Q E → vs.length = ps.length
  run : ∀ (A : Around) (outer : List PySem.Env) (s : Shared) (H : Hp) (args : Args) (us : List Value) (vs : List V) (Q : VK) (E : XK), Room k A → A.guards = some [] → Env0 P w K mg base A outer s H → BindsTo s fd args (ps.zip us) → Vals vs us → sp vs H Q E →
    codeAny (model P w) A (.call (.ref f) args) (CR (L2.CX P w) outer P w H s Q E) s
theorem FnG.mono {P : Program} {w : World} {K : PySem.W.Frag} {mg : Str → Option Value} {base : Heap} {j k : Nat} {f : Addr} {fd : FuncData} {ps : List Str} {sp : Sp} (F : FnG P w K mg base j f fd ps sp) (h : j ≤ k) : FnG P w K mg base k f fd ps sp :=
  ⟨F.len, fun A outer s H args us vs Q E hr => F.run A outer s H args us vs Q E (hr.mono h)⟩
theorem FnG.imp {P : Program} {w : World} {K : PySem.W.Frag} {mg : Str → Option Value} {base : Heap} {k : Nat} {f : Addr} {fd : FuncData} {ps : List Str} {sp sp' : Sp} (F : FnG P w K mg base k f fd ps sp)
    (h : ∀ vs H Q E, sp' vs H Q E → sp vs H Q E) : FnG P w K mg base k f fd ps sp' :=
  ⟨fun vs H Q E q => F.len vs H Q E (h _ _ _ _ q), fun A outer s H args us vs Q E hr hg he hb hv hs => F.run A outer s H args us vs Q E hr hg he hb hv (h _ _ _ _ hs)⟩
structure FnN (P : Program) (w : World) (K : PySem.W.Frag) (mg : Str → Option Value) (base : Heap) (k : Nat) (x : Str) (ps : List Str) (sp : Sp) : Prop where
  ex : ∃ (f : Addr) (fd : FuncData), mg x = some (Value.ref f) ∧ PySem.W.keepIn K (.ref f) = true ∧ Binds K fd ps [] ∧ FnG P w K mg base k f fd ps sp
theorem FnN.mono {P : Program} {w : World} {K : PySem.W.Frag} {mg : Str → Option Value} {base : Heap} {j k : Nat} {x : Str} {ps : List Str} {sp : Sp} (F : FnN P w K mg base j x ps sp) (h : j ≤ k) : FnN P w K mg base k x ps sp :=
  let ⟨f, fd, a, b, c, d⟩ := F.ex
  ⟨f, fd, a, b, c, d.mono h⟩

section
variable {X : Cx} {k j : Nat} {f : Addr} {fd : FuncData} {ps : List Str} {sp : Sp} {E : XK} {x : Str} {p pos : Pos} {e : Expr} {es : List Expr} {t : TA}
theorem run_fnG {pins : List (Addr × Obj)} {σ : L2.St} {H : Hp} {s : Shared} {Q : VK} {us : List Value} {vs : List V} (F : FnG X.prog X.w X.K X.mg X.base j f fd ps sp) (c : Cok X E k) (hj : j ≤ k) (hb : Binds X.K fd ps [])
    (I : L2.Inv X pins σ H s) (r : Vals vs us) (h : sp vs H Q E) : wpAny (model X.prog X.w) X.A (call (.ref f) us) (EP X pins σ Q) X.xe s := by
  have hl : us.length = ps.length := by rw [← r.length]; exact F.len _ _ _ _ h
  have hb2 := hb s us I.kIn (by rw [List.append_nil]; exact hl)
  rw [List.append_nil] at hb2
  refine wpAny_call (codeAny_mono (F.run X.A X.stack s H ⟨us, []⟩ us vs Q E (c.hr.mono hj) c.hg I.env0 hb2 r h) fun r s' hq => ?_)
  cases r with
  | error e => exact c.hp pins σ H s e s' I hq
  | ok fl =>
    cases fl with
    | ret u => exact I.after hq
    | next => exact False.elim hq
    | brk => exact False.elim hq
    | cont => exact False.elim hq
theorem pe_callG (F : FnN X.prog X.w X.K X.mg X.base j x ps sp) (c : Cok X E k) (hj : j ≤ k) (hg : Gl X x)
    (ha : PA X (e :: es) t) (hdb : (x == ("__debug__" : Str)) = false := by decide) (he : starEach (e :: es) X.env = (false, eval e X.env) :: starEach es X.env := by rfl) (hpl : (backTo pos (starEach es X.env)).any (·.1) = false := by rfl) :
    PE X (.Call (.Name x p) (e :: es) [] pos) (fun σ H Q => t σ H fun vs H1 => sp vs H1 Q E) := by
  obtain ⟨f, fd, hm, hk, hb, F⟩ := F.ex
  refine ⟨fun pins s σ H Q I h => ?_⟩
  refine wpAny_Call_Name_kw (ld_glob I hg hm ?_ hdb)
  refine PySem.W.callWith_K (h₀ := X.base) I.ok.mod.kin hk (thn (ha.run pos pins s σ H _ I h) fun us s1 ⟨vs, H1, I1, r, q⟩ => ⟨I1.kIn, ?_⟩) he hpl
  exact run_fnG F c hj hb I1 r q
end

def spP (K : PySem.W.Frag) (mg : Str → Option Value) (F : List D → Res D) : Sp := fun vs H Q E => ∃ ds, RDs K mg H vs ds ∧ (∀ P, Tabs.T P → GxR.TabG H P) ∧ match F ds with
  | .ok d => ∀ v H', Sm H H' → RD K mg H' v d → Q v H'
  | .exn c fs => ∀ cls dd H', ExR K mg c fs cls dd H' → Sm H H' → E cls dd H'
  | .stuck => False
def spB (K : PySem.W.Frag) (mg : Str → Option Value) (F : List D → List D → Res (D × List D)) : Sp := fun vs H Q E => ∃ a xs vr bs ds, vs = .ref a :: vr ∧ H a = some (.lst xs) ∧ RDs K mg H xs bs ∧ RDs K mg H vr ds ∧ (∀ P, Tabs.T P → GxR.TabG H P) ∧ match F bs ds with
  | .ok (d, bs') => ∀ v H' ys, SmB a H H' → H' a = some (.lst ys) → RDs K mg H' ys bs' → RD K mg H' v d → Q v H'
  | _ => False
def eCall (F : List D → Res D) (ms : MA) : ME := fun ρ => match ms ρ with
  | .ok (ds, ρ1) => (match F ds with
    | .ok d => .ok (d, ρ1)
    | .exn c fs => .exn c fs
    | .stuck => .stuck)
  | .exn c fs => .exn c fs
  | .stuck => .stuck
def callEnd (F : List D → List D → Res (D × List D)) (i : Nat) (ds : List D) (ρ : En) : Res (D × En) := match slotO ρ i with
  | some bs => (match F bs ds with
    | .ok (d, bs') => .ok (d, ρ.set i (some (.own bs')))
    | _ => .stuck)
  | none => .stuck
def eCallB (F : List D → List D → Res (D × List D)) (i : Nat) (ms : MA) : ME := fun ρ => match slotO ρ i with
  | some _ => mThen ms (callEnd F i) ρ
  | none => .stuck
section
variable {X : Cx} {k j : Nat} {ps : List Str} {EW : XK} {rf : List Nat} {x y : Str} {p py pos : Pos} {e : Expr} {es : List Expr} {m : MA}
theorem le_call {F : List D → Res D} (Fn : FnN X.prog X.w X.K X.mg X.base j x ps (spP X.K X.mg F)) (c : Cok X EW k) (hj : j ≤ k) (hg : Gl X x) (ha : LA X EW rf (e :: es) m)
    (hdb : (x == ("__debug__" : Str)) = false := by decide) (he : starEach (e :: es) X.env = (false, eval e X.env) :: starEach es X.env := by rfl) (hpl : (backTo pos (starEach es X.env)).any (·.1) = false := by rfl) :
    LE X EW rf (.Call (.Name x p) (e :: es) [] pos) (eCall F m) := by
  refine ⟨fun H0 A hA => (pe_callG Fn c hj hg (ha.run H0 A hA) hdb he hpl).imp fun σ H Q q => ?_⟩
  obtain ⟨ρ, r, q⟩ := q
  refine ⟨ρ, r, ?_⟩
  unfold eCall at q
  cases em : m ρ with
  | ok p =>
    obtain ⟨ds, ρ1⟩ := p
    rw [em] at q
    simp only at q
    refine fun vs H1 r1 x1 rv => ⟨ds, rv, r1.tb, ?_⟩
    cases ef : F ds with
    | ok d =>
      rw [ef] at q
      exact fun v H' s rd => q v H' (r1.sm s) (x1.trans (Ext.of_sm s)) rd
    | exn c fs =>
      rw [ef] at q
      exact fun cls dd H' ex s => q cls dd H' ex ⟨(r1.sm s).fr, s.tb⟩
    | stuck => rw [ef] at q; exact q
  | exn c fs => rw [em] at q; exact q
  | stuck => rw [em] at q; exact q
theorem le_callB {F : List D → List D → Res (D × List D)} {i : Nat} (Fn : FnN X.prog X.w X.K X.mg X.base j x ps (spB X.K X.mg F)) (c : Cok X EW k) (hj : j ≤ k) (hg : Gl X x) (hN : X.N[i]? = some y) (hv : Vis X.env.scope y) (ha : LA X EW rf es m)
    (hdb : (x == ("__debug__" : Str)) = false := by decide) (hd : (y == ("__debug__" : Str)) = false := by decide) (hcd : (y == ("__classdict__" : Str)) = false := by decide)
    (he : starEach (.Name y py :: es) X.env = (false, eval (.Name y py) X.env) :: starEach es X.env := by rfl) (hpl : (backTo pos (starEach es X.env)).any (·.1) = false := by rfl) :
    LE X EW rf (.Call (.Name x p) (.Name y py :: es) [] pos) (eCallB F i m) := by
  refine ⟨fun H0 A hA => (pe_callG Fn c hj hg (pa_cons (pe_var hN hv hd hcd) (ha.run H0 A hA) he) hdb he hpl).imp fun σ H Q q => ?_⟩
  obtain ⟨ρ, r, q⟩ := q
  unfold eCallB at q
  cases es0 : slotO ρ i with
  | none => rw [es0] at q; exact q.elim
  | some ds0 =>
    rw [es0] at q
    obtain ⟨a, xs, h1, h2, h3, h4⟩ := r.own i ds0 (slotO_eq es0)
    refine ⟨.ref a, h1, ?_⟩
    refine (rM.then (R := RA X) ⟨ρ, r, q⟩).mono fun vs H1 ⟨ds, rv, q⟩ => ?_
    obtain ⟨ρ1, r1, q⟩ := q
    unfold callEnd at q
    cases es1 : slotO ρ1 i with
    | none => rw [es1] at q; exact q.elim
    | some bs =>
      rw [es1] at q
      simp only at q
      obtain ⟨a', ys, g1, g2, g3, g4⟩ := r1.own i bs (slotO_eq es1)
      rw [h1] at g1
      cases g1
      refine ⟨a, ys, vs, bs, ds, rfl, g2, g3, rv, r1.tb, ?_⟩
      cases ef : F bs ds with
      | ok p =>
        obtain ⟨d, bs'⟩ := p
        rw [ef] at q
        simp only at q
        intro v H' zs hs hz rz rd
        exact q v H' (r1.mutK (slotO_eq es1) h1 g2 g4 hs hz rz) (hs.ext g2) rd
      | exn c fs => rw [ef] at q; exact q.elim
      | stuck => rw [ef] at q; exact q.elim
end

theorem fnG_of {P : Program} {w : World} {K : PySem.W.Frag} {mg : Str → Option Value} {base : Heap} {k : Nat} {f : Addr} {name qual : Str} {params : Arguments} {body : List Stmt} {scope : Scope} {dV kV doc pm cdv ct oc : Value} {an od : Option Addr}
    {osl : Array (Option Value)} {N ps : List Str} {sp : Sp} (lk : K.lookup f = some ⟨oc, od, .func (PySem.W.fnOf name qual params body scope dV kV doc pm an cdv ct), osl⟩) (hcd : PySem.W.codeIn K cdv qual = true) (S : FnScope N ps scope)
    (len : ∀ vs H Q E, sp vs H Q E → vs.length = ps.length)
    (hbody : ∀ (A : Around) (outer : List PySem.Env) (s : Shared) (H : Hp) (vs : List V) (Q : VK) (E : XK), Room k (A.deeper (envOfC qual scope s.heap.objs.size f cdv)) → A.guards = some [] → sp vs H Q E →
      ∃ t, PSs (cxOf (L2.CX P w) P w K mg base N qual scope f cdv A outer s H E) body t ∧ t { nx := fun _ H' => Q .non H', rt := Q } (L2.start N vs) H) :
    FnG P w K mg base (k + 1) f (PySem.W.fnOf name qual params body scope dV kV doc pm an cdv ct) ps sp := by
  refine ⟨len, fun A outer s H args us vs Q E hr hg e0 hb r hsp => ?_⟩
  have hl := len _ _ _ _ hsp
  have KX : K.In s.heap := e0.mod.kin.keeps fun b o e => (e0.bs b o e).1
  have lim : s.heap.NoLimit := e0.mod.nolimit.keeps fun b o e => (e0.bs b o e).1
  have hkind : ∀ y ∈ ps.zip us, scope.names.lookup y.1 = some .local ∨ (scope.names.lookup y.1 = some .cell ∧ ((cellsFrom (s.heap.objs.size + 1) scope.names []).lookup y.1).isSome = true) := fun ⟨n, v⟩ hy => by
    rcases S.par n (List.of_mem_zip hy).1 with q | q
    · exact .inl q
    · exact .inr ⟨q, PySem.W.cellsFrom_some _ _ _ (.inl q)⟩
  refine codeAny_call_function hr.depth (KX _ _ lk) rfl S.co S.gen rfl (PySem.W.codeRec_of KX hcd) (hb _ _ _ _ ?_)
  refine wpAny_newFunctionEnv_cells S.kind hkind fun env he s1 x => ?_
  subst he
  refine ⟨lim.keeps x.toInCall.keep, codeAny_func ?_⟩
  obtain ⟨t, ht, hq⟩ := hbody A outer s H vs Q E (hr.deeper _) hg hsp
  have I : L2.Inv (cxOf (L2.CX P w) P w K mg base N qual scope f cdv A outer s H E) [] (L2.start N vs) H s1 := inv_start S hr.hd e0 hl r x
  refine wpAny_mono (ht.run [] s1 (L2.start N vs) H _ I hq) (fun fl s' hs => ?_) fun e s' hs => hs
  have fin : ∀ {σ' : L2.St} {H' : Hp} {v : V} {u : Value}, L2.Inv (cxOf (L2.CX P w) P w K mg base N qual scope f cdv A outer s H E) [] σ' H' s' → RelV v u → Q v H' → CE outer P w H s Q u s' :=
    fun {σ' H' v u} J rv q => ⟨v, H', J.os, J.bare, J.base, J.hok, rv, q⟩
  cases fl with
  | ret u =>
    obtain ⟨v, σ', H', J, rv, q⟩ := hs
    exact fin J rv q
  | next =>
    obtain ⟨σ', H', J, q⟩ := hs
    exact fin (v := V.non) (u := Value.none) J rfl q
  | brk =>
    obtain ⟨_, _, _, q⟩ := hs
    exact False.elim q
  | cont =>
    obtain ⟨_, _, _, q⟩ := hs
    exact False.elim q

def startE (n : Nat) (ms : List MV) : En := ms.map some ++ List.replicate (n - ms.length) none
def runP (n m : Nat) (b : MS) (ds : List D) : Res D := if ds.length = m then (match b (startE n (ds.map MV.dat)) with
  | .ok (.rt d _) => .ok d
  | .ok (.nx _) => .ok .non
  | .exn c fs => .exn c fs
  | _ => .stuck) else .stuck
def runB (n m : Nat) (b : MS) (bs ds : List D) : Res (D × List D) := if ds.length + 1 = m then (match b (startE n (MV.own bs :: ds.map MV.dat)) with
  | .ok (.rt d ρ) => (match slotO ρ 0 with
    | some bs' => .ok (d, bs')
    | none => .stuck)
  | .ok (.nx ρ) => (match slotO ρ 0 with
    | some bs' => .ok (.non, bs')
    | none => .stuck)
  | _ => .stuck) else .stuck
theorem startE_dat {n : Nat} {ds : List D} {i : Nat} {d : D} (h : (startE n (ds.map MV.dat))[i]? = some (some (MV.dat d))) : ds[i]? = some d := by
  unfold startE at h
  by_cases hi : i < ds.length
  · rw [List.getElem?_append_left (by simpa using hi)] at h
    simp only [List.getElem?_map] at h
    cases e : ds[i]? with
    | none => rw [e] at h; cases h
    | some x => rw [e] at h; cases h; rfl
  · rw [List.getElem?_append_right (by simpa using hi), List.getElem?_replicate] at h
    split at h <;> cases h
theorem startE_own {n : Nat} {ds : List D} {i : Nat} {xs : List D} (h : (startE n (ds.map MV.dat))[i]? = some (some (MV.own xs))) : False := by
  unfold startE at h
  by_cases hi : i < ds.length
  · rw [List.getElem?_append_left (by simpa using hi)] at h
    simp only [List.getElem?_map] at h
    cases e : ds[i]? with
    | none => rw [e] at h; cases h
    | some x => rw [e] at h; cases h
  · rw [List.getElem?_append_right (by simpa using hi), List.getElem?_replicate] at h
    split at h <;> cases h
theorem startE_nst {n : Nat} {ds : List D} {i : Nat} {rows : NX} : (startE n (ds.map MV.dat))[i]? ≠ some (some (MV.nst rows)) := by
  intro h
  unfold startE at h
  by_cases hi : i < ds.length
  · rw [List.getElem?_append_left (by simpa using hi), List.getElem?_map, List.getElem?_map] at h
    cases e : ds[i]? with
    | none => rw [e] at h; cases h
    | some x => rw [e] at h; cases h
  · rw [List.getElem?_append_right (by simpa using hi), List.getElem?_replicate] at h
    split at h <;> cases h
theorem startE_ins {n : Nat} {ds : List D} {i : Nat} {c : Str} {nn : List Str} {dd : List D} : (startE n (ds.map MV.dat))[i]? ≠ some (some (MV.ins c nn dd)) := by
  intro h
  unfold startE at h
  by_cases hi : i < ds.length
  · rw [List.getElem?_append_left (by simpa using hi), List.getElem?_map, List.getElem?_map] at h
    cases e : ds[i]? with
    | none => rw [e] at h; cases h
    | some x => rw [e] at h; cases h
  · rw [List.getElem?_append_right (by simpa using hi), List.getElem?_replicate] at h
    split at h <;> cases h
theorem start_get {N : List Str} {vs : List V} {i : Nat} {v : V} (h : vs[i]? = some v) : (L2.start N vs)[i]? = some (some v) := by
  unfold L2.start
  have hi : i < vs.length := (List.getElem?_eq_some_iff.mp h).1
  rw [List.getElem?_append_left (by simpa using hi), List.getElem?_map, h]
  rfl
theorem sr_start {K : PySem.W.Frag} {mg : Str → Option Value} {H : Hp} {N : List Str} {vs : List V} {ds : List D} (r : RDs K mg H vs ds) (tb : ∀ P, Tabs.T P → GxR.TabG H P) : SR K mg H [] (L2.start N vs) H (startE N.length (ds.map MV.dat)) := by
  refine ⟨?_, fun i d h => ?_, fun i xs h => (startE_own h).elim, fun i j _ _ a _ h => (startE_own h).elim, fun b o h _ => .of h, fun p hp => by simp at hp, fun p hp => by simp at hp, tb, Nso.none fun i rows h => startE_nst h, Iso.none fun i c nn dd h => startE_ins h⟩
  · unfold startE L2.start
    simp [r.length]
  · obtain ⟨v, h1, h2⟩ := r.get (startE_dat h)
    exact ⟨v, start_get h1, h2⟩
theorem startB_cases {n : Nat} {bs ds : List D} {i : Nat} {x : MV} (h : (startE n (MV.own bs :: ds.map MV.dat))[i]? = some (some x)) : (i = 0 ∧ x = .own bs) ∨ ∃ j d, i = j + 1 ∧ ds[j]? = some d ∧ x = .dat d := by
  unfold startE at h
  cases i with
  | zero =>
    simp at h
    exact .inl ⟨rfl, h.symm⟩
  | succ j =>
    refine .inr ⟨j, ?_⟩
    by_cases hi : j < ds.length
    · rw [List.getElem?_append_left (by simpa using hi)] at h
      simp only [List.map_cons, List.getElem?_cons_succ, List.getElem?_map] at h
      cases e : ds[j]? with
      | none => rw [e] at h; cases h
      | some d => rw [e] at h; cases h; exact ⟨d, rfl, rfl, rfl⟩
    · rw [List.getElem?_append_right (by simpa using hi), List.getElem?_replicate] at h
      split at h <;> cases h
theorem sr_startB {K : PySem.W.Frag} {mg : Str → Option Value} {H : Hp} {N : List Str} {a : Addr} {xs vr : List V} {bs ds : List D} (ha : H a = some (.lst xs)) (rb : RDs K mg H xs bs) (r : RDs K mg H vr ds) (tb : ∀ P, Tabs.T P → GxR.TabG H P) :
    SR K mg H [(0, a)] (L2.start N (.ref a :: vr)) H (startE N.length (MV.own bs :: ds.map MV.dat)) := by
  refine ⟨?_, fun i d h => ?_, fun i zs h => ?_, fun i j d1 d2 b hij h1 h2 h3 h4 => ?_, fun b o h _ => .of h, fun p hp => ?_, fun p hp => ?_, tb, Nso.none fun i rows h => (by
    rcases startB_cases h with ⟨_, e⟩ | ⟨_, _, _, _, e⟩ <;> cases e), Iso.none fun i c nn dd h => (by
    rcases startB_cases h with ⟨_, e⟩ | ⟨_, _, _, _, e⟩ <;> cases e)⟩
  · unfold startE L2.start
    simp [r.length]
  · rcases startB_cases h with ⟨_, e⟩ | ⟨j, d', rfl, hd, e⟩
    · cases e
    · cases e
      obtain ⟨v, h1, h2⟩ := r.get hd
      exact ⟨v, start_get (by simpa using h1), h2⟩
  · rcases startB_cases h with ⟨rfl, e⟩ | ⟨j, d', rfl, hd, e⟩
    · cases e
      exact ⟨a, xs, start_get rfl, ha, rb, .inr (by simp)⟩
    · cases e
  · rcases startB_cases h1 with ⟨rfl, e⟩ | ⟨j, d', rfl, hd, e⟩
    · rcases startB_cases h2 with ⟨rfl, e⟩ | ⟨j, d', rfl, hd, e⟩
      · exact hij rfl
      · cases e
    · cases e
  · have e : p = (0, a) := by simpa using hp
    subst e
    exact start_get rfl
  · have e : p = (0, a) := by simpa using hp
    subst e
    exact ⟨_, ha⟩

section
variable {P : Program} {w : World} {K : PySem.W.Frag} {mg : Str → Option Value} {base : Heap} {x qual : Str} {st : Stmt} {f : Addr} {fd : FuncData} {N ps : List Str} {k : Nat}
abbrev cxF (P : Program) (w : World) (K : PySem.W.Frag) (mg : Str → Option Value) (base : Heap) (N : List Str) (qual : Str) (st : Stmt) (f : Addr) (cdv : Value) (A : Around) (outer : List PySem.Env) (s : Shared) (H : Hp) (E : XK) : Cx :=
  cxOf (L2.CX P w) P w K mg base N qual (defScope st) f cdv A outer s H E
theorem cok_of {scope : Scope} {cdv : Value} {A : Around} {outer : List PySem.Env} {s : Shared} {H : Hp} {E : XK} (hr : Room k (A.deeper (envOfC qual scope s.heap.objs.size f cdv))) (hg : A.guards = some []) (nd : N.Nodup) :
    Cok (cxOf (L2.CX P w) P w K mg base N qual scope f cdv A outer s H E) E k := by
  have tk : Takes (cxOf (L2.CX P w) P w K mg base N qual scope f cdv A outer s H E) (fun cls d _ H => E cls d H) := takes_of rfl rfl rfl rfl
  exact ⟨rfl, hg, hr, nd, passes_call tk (fun _ _ _ _ h => h), passes_of rfl, tk⟩
theorem okB (F : Fun K x qual st f fd) (S : FnScope N ps (defScope st)) (b : MS)
    (hb : ∀ (cdv : Value) (A : Around) (outer : List PySem.Env) (s : Shared) (H : Hp) (E : XK), Cok (cxF P w K mg base N qual st f cdv A outer s H E) E k → LSs (cxF P w K mg base N qual st f cdv A outer s H E) E [0] (defBody st) b) :
    FnG P w K mg base (k + 1) f fd ps (spB K mg (runB N.length ps.length b)) := by
  obtain ⟨oc, od, kV, doc, pm, an, cdv, ct, osl, rfl, lk, hcd⟩ := F.ex
  refine fnG_of lk hcd S (fun vs H Q E h => ?_) fun A outer s H vs Q E hr hg h => ?_
  · obtain ⟨a, xs, vr, bs, ds, rfl, ha, rb, r, tb, h⟩ := h
    by_cases hl : ds.length + 1 = ps.length
    · rw [List.length_cons, r.length]; exact hl
    · unfold runB at h
      rw [if_neg hl] at h
      exact h.elim
  · obtain ⟨a, xs, vr, bs, ds, rfl, ha, rb, r, tb, h⟩ := h
    have hl : ds.length + 1 = ps.length := by
      by_cases hl : ds.length + 1 = ps.length
      · exact hl
      · unfold runB at h
        rw [if_neg hl] at h
        exact h.elim
    unfold runB at h
    rw [if_pos hl] at h
    refine ⟨_, (hb cdv A outer s H E (cok_of hr hg S.nd)).run H [(0, a)] rfl, startE N.length (MV.own bs :: ds.map MV.dat), sr_startB ha rb r tb, ?_⟩
    have sm : ∀ {σ' : L2.St} {H' : Hp} {ρ' : En}, SR K mg H [(0, a)] σ' H' ρ' → SmB a H H' := fun q => ⟨fun b o n e => q.fr b o e (by simpa using n), q.tb⟩
    have out : ∀ {σ' : L2.St} {H' : Hp} {ρ' : En} {bs' : List D}, SR K mg H [(0, a)] σ' H' ρ' → slotO ρ' 0 = some bs' → ∃ ys, H' a = some (.lst ys) ∧ RDs K mg H' ys bs' := fun {σ' H' ρ' bs'} q e => by
      obtain ⟨a', ys, h1, h2, h3, _⟩ := q.own 0 bs' (slotO_eq e)
      have := q.ref (0, a) (by simp)
      rw [h1] at this
      cases this
      exact ⟨ys, h2, h3⟩
    cases eb : b (startE N.length (MV.own bs :: ds.map MV.dat)) with
    | ok fl =>
      rw [eb] at h
      cases fl with
      | nx ρ =>
        simp only at h
        cases eo : slotO ρ 0 with
        | none => rw [eo] at h; exact h.elim
        | some bs' =>
          rw [eo] at h
          intro σ' H' r' x'
          obtain ⟨ys, h2, h3⟩ := out r' eo
          exact h .non H' ys (sm r') h2 h3 .non
      | rt d ρ =>
        simp only at h
        cases eo : slotO ρ 0 with
        | none => rw [eo] at h; exact h.elim
        | some bs' =>
          rw [eo] at h
          intro v σ' H' r' x' rd
          obtain ⟨ys, h2, h3⟩ := out r' eo
          exact h v H' ys (sm r') h2 h3 rd
      | bk ρ => exact h.elim
      | ct ρ => exact h.elim
    | exn c fs => rw [eb] at h; exact h.elim
    | stuck => rw [eb] at h; exact h.elim
end
end ML


namespace ML
open PySem PySem.Spec PyProof.Rows L2
variable [Tabs]

def wipeE (ρ : En) : List Nat → En
  | [] => ρ
  | v :: vs => (wipeE ρ vs).set v none
theorem wipeE_length (ρ : En) : ∀ vs, (wipeE ρ vs).length = ρ.length
  | [] => rfl
  | v :: vs => by show ((wipeE ρ vs).set v none).length = _; rw [List.length_set]; exact wipeE_length ρ vs
theorem wipeE_some {ρ : En} {i : Nat} {x : MV} : ∀ {vs : List Nat}, (wipeE ρ vs)[i]? = some (some x) → ρ[i]? = some (some x) ∧ i ∉ vs
  | [], h => ⟨h, by simp⟩
  | v :: vs, h => by
    have h : ((wipeE ρ vs).set v none)[i]? = some (some x) := h
    rw [List.getElem?_set] at h
    by_cases e : v = i
    · rw [if_pos e] at h
      split at h <;> cases h
    · rw [if_neg e] at h
      obtain ⟨h1, h2⟩ := wipeE_some h
      exact ⟨h1, by simp only [List.mem_cons, not_or]; exact ⟨fun q => e q.symm, h2⟩⟩
theorem wipe_in {σ : L2.St} {i : Nat} : ∀ {vs : List Nat}, i ∈ vs → i < σ.length → (wipe σ vs)[i]? = some none
  | v :: vs, h, hi => by
    show ((wipe σ vs).set v none)[i]? = _
    rw [List.getElem?_set]
    by_cases e : v = i
    · rw [if_pos e, if_pos (by rw [wipe_length, e]; exact hi)]
    · rw [if_neg e]
      rcases List.mem_cons.mp h with q | q
      · exact absurd q.symm e
      · exact wipe_in q hi
theorem wipe_off {σ σ2 : L2.St} {vs : List Nat} (h : Off vs (wipe σ vs) σ2) : wipe σ2 vs = wipe σ vs := by
  have hl : σ2.length = σ.length := h.1.trans (wipe_length σ vs)
  apply List.ext_getElem?
  intro i
  by_cases hi : i ∈ vs
  · by_cases hz : i < σ.length
    · rw [wipe_in hi (by omega), wipe_in hi hz]
    · rw [List.getElem?_eq_none (by rw [wipe_length]; omega), List.getElem?_eq_none (by rw [wipe_length]; omega)]
  · rw [wipe_out hi, h.2 i hi]
section
variable {K : PySem.W.Frag} {mg : Str → Option Value} {H0 H : Hp} {A : List (Nat × Addr)} {σ σ2 : L2.St} {ρ : En} {vs : List Nat}
theorem SR.wipe (r : SR K mg H0 A σ H ρ) (hv : ∀ p ∈ A, p.1 ∉ vs) : SR K mg H0 A (wipe σ vs) H (wipeE ρ vs) := by
  refine ⟨by rw [wipeE_length, wipe_length]; exact r.len, fun i d h => ?_, fun i ds h => ?_, fun i j d1 d2 a hij h1 h2 h3 h4 => ?_, r.fr, fun p hp => ?_, r.liv, r.tb, r.nst.env (fun i rows h => ⟨(wipeE_some h).1, wipe_out (wipeE_some h).2⟩) (fun j ds c h hs na => na.own (wipeE_some h).1 (by rw [← wipe_out (wipeE_some h).2]; exact hs)) (fun i c nn dd h => ⟨(wipeE_some h).1, wipe_out (wipeE_some h).2⟩), r.ins.env (fun i c nn dd h => ⟨(wipeE_some h).1, wipe_out (wipeE_some h).2⟩)⟩
  · obtain ⟨h1, h2⟩ := wipeE_some h
    rw [wipe_out h2]
    exact r.dat i d h1
  · obtain ⟨h1, h2⟩ := wipeE_some h
    rw [wipe_out h2]
    exact r.own i ds h1
  · obtain ⟨g1, g2⟩ := wipeE_some h1
    obtain ⟨k1, k2⟩ := wipeE_some h2
    rw [wipe_out g2] at h3
    rw [wipe_out k2] at h4
    exact r.ap i j d1 d2 a hij g1 k1 h3 h4
  · rw [wipe_out (hv p hp)]
    exact r.ref p hp
theorem SR.unwipe (r : SR K mg H0 A σ2 H ρ) (o : Off vs (L2.wipe σ vs) σ2) (hv : ∀ p ∈ A, p.1 ∉ vs) : SR K mg H0 A σ H (wipeE ρ vs) := by
  have at_ : ∀ i, i ∉ vs → σ2[i]? = σ[i]? := fun i h => (o.2 i h).trans (wipe_out h)
  refine ⟨by rw [wipeE_length, r.len, o.1, wipe_length], fun i d h => ?_, fun i ds h => ?_, fun i j d1 d2 a hij h1 h2 h3 h4 => ?_, r.fr, fun p hp => ?_, r.liv, r.tb, r.nst.env (fun i rows h => ⟨(wipeE_some h).1, (at_ i (wipeE_some h).2).symm⟩) (fun j ds c h hs na => na.own (wipeE_some h).1 (by rw [at_ j (wipeE_some h).2]; exact hs)) (fun i c nn dd h => ⟨(wipeE_some h).1, (at_ i (wipeE_some h).2).symm⟩), r.ins.env (fun i c nn dd h => ⟨(wipeE_some h).1, (at_ i (wipeE_some h).2).symm⟩)⟩
  · obtain ⟨h1, h2⟩ := wipeE_some h
    rw [← at_ i h2]
    exact r.dat i d h1
  · obtain ⟨h1, h2⟩ := wipeE_some h
    rw [← at_ i h2]
    exact r.own i ds h1
  · obtain ⟨g1, g2⟩ := wipeE_some h1
    obtain ⟨k1, k2⟩ := wipeE_some h2
    rw [← at_ i g2] at h3
    rw [← at_ j k2] at h4
    exact r.ap i j d1 d2 a hij g1 k1 h3 h4
  · rw [← at_ _ (hv p hp)]
    exact r.ref p hp
end

def compLoop (g : MG) (vs : List Nat) (c : MB) (elt : ME) : List D → List D → En → Res (List D × En)
  | [], acc, ρ => .ok (acc, ρ)
  | d :: ds, acc, ρ => match g d (wipeE ρ vs) with
    | .ok ρ1 => (match c ρ1 with
      | .ok (true, ρ2) => (match elt ρ2 with
        | .ok (y, ρ3) => if acc.length < sizeLine then compLoop g vs c elt ds (acc ++ [y]) (wipeE ρ3 vs) else .stuck
        | _ => .stuck)
      | .ok (false, ρ2) => compLoop g vs c elt ds acc (wipeE ρ2 vs)
      | _ => .stuck)
    | _ => .stuck
def bYes : MB := fun ρ => .ok (true, ρ)
def oComp (mi : MA) (g : MG) (vs : List Nat) (c : MB) (elt : ME) : MA := fun ρ => match mi ρ with
  | .ok (ds, ρ1) => compLoop g vs c elt ds [] ρ1
  | .exn c fs => .exn c fs
  | .stuck => .stuck
def aR {α β : Type} (X : Cx) (EW : XK) (rf : List Nat) (R : β → α → Hp → Prop) (m : En → Res (α × En)) (σ : L2.St) (H : Hp) (Q : β → Hp → Prop) : Prop := ∃ H0 A, A.map (·.1) = rf ∧ rM X EW H0 A R m σ H Q
theorem LE.all {X : Cx} {EW : XK} {rf : List Nat} {e : Expr} {m : ME} (h : LE X EW rf e m) : PE X e (aR X EW rf (RE X) m) := ⟨fun pins s σ H Q I ⟨H0, A, hA, q⟩ => (h.run H0 A hA).run pins s σ H Q I q⟩
theorem LT.all {X : Cx} {EW : XK} {rf : List Nat} {e : Expr} {m : MB} (h : LT X EW rf e m) : PT X e (aR X EW rf RB m) := ⟨fun pins s σ H Q I ⟨H0, A, hA, q⟩ => (h.run H0 A hA).run pins s σ H Q I q⟩
theorem LI.all {X : Cx} {EW : XK} {rf : List Nat} {tg e : Expr} {m : MA} (h : LI X EW rf tg e m) : PI X tg e (aR X EW rf (IterOk X) m) := ⟨fun pins s σ H Q I ⟨H0, A, hA, q⟩ => (h.run H0 A hA).run pins s σ H Q I q⟩
theorem LG.all {X : Cx} {rf vs : List Nat} {e : Expr} {g : MG} (h : LG X rf vs e g) : PG X e (fun v σ H Q => ∃ H0 A, A.map (·.1) = rf ∧ rG X H0 A (RE X) vs g v σ H Q) := ⟨fun pins s σ H v u Q I r ⟨H0, A, hA, q⟩ => (h.run H0 A hA).run pins s σ H v u Q I r q⟩
section
variable {X : Cx} {EW : XK} {rf : List Nat}
end
end ML


namespace ML
open PySem PySem.Spec PyProof.Rows L2
variable [Tabs]

mutual
def D.py : D → PyData
  | .non => .none
  | .bl b => .bool b
  | .int i => .int i
  | .str x => .str x
  | .tup xs => .tuple (pyAll xs)
  | .lst xs => .list (pyAll xs)
  | .fn _ => .none
  | .klst _ => .none
  | .ty _ => .none
  | .obj _ _ _ => .none
  | .rng _ _ _ => .none
def pyAll : List D → List PyData
  | [] => []
  | x :: xs => x.py :: pyAll xs
end
mutual
def D.pure : D → Bool
  | .fn _ => false
  | .klst _ => false
  | .ty _ => false
  | .obj _ _ _ => false
  | .rng _ _ _ => false
  | .str x => PyData.strOk x
  | .tup xs => pureAll xs
  | .lst xs => pureAll xs
  | _ => true
def pureAll : List D → Bool
  | [] => true
  | x :: xs => x.pure && pureAll xs
end
mutual
theorem canLay_py : ∀ d : D, d.pure = true → d.py.canLay0 = true
  | .non, _ => rfl
  | .bl _, _ => rfl
  | .int _, _ => rfl
  | .str x, h => h
  | .tup xs, h => canLayAll_py xs h
  | .lst xs, h => canLayAll_py xs h
  | .fn _, h => nomatch h
  | .klst _, h => nomatch h
  | .ty _, h => nomatch h
  | .obj _ _ _, h => nomatch h
  | .rng _ _ _, h => nomatch h
theorem canLayAll_py : ∀ ds : List D, pureAll ds = true → PyData.canLayAll0 (pyAll ds) = true
  | [], _ => rfl
  | x :: xs, h => by
    have h' : (x.pure && pureAll xs) = true := h
    rw [Bool.and_eq_true] at h'
    show (x.py.canLay0 && PyData.canLayAll0 (pyAll xs)) = true
    rw [canLay_py x h'.1, canLayAll_py xs h'.2]; rfl
end
section
variable {K : PySem.W.Frag} {mg : Str → Option Value} {H : Hp}
mutual
theorem RD.dp : ∀ {v : V} {d : D}, RD K mg H v d → d.pure = true → Dp K H v d.py
  | _, _, .non, _ => .non
  | _, _, .bl b, _ => .bl b
  | _, _, .int i, _ => .int i
  | _, _, .str x, _ => .str x
  | _, _, .tup h r, p => .tup h.seq (RDs.dp r p)
  | _, _, .lst h r, p => .lst h.seq (RDs.dp r p)
  | _, _, .fn h, p => nomatch p
  | _, _, .klst h r, p => nomatch p
  | _, _, .ty n, p => nomatch p
  | _, _, .obj h r, p => nomatch p
  | _, _, .rng h, p => nomatch p
theorem RDs.dp : ∀ {vs : List V} {ds : List D}, RDs K mg H vs ds → pureAll ds = true → DpAll K H vs (pyAll ds)
  | _, _, .nil, _ => .nil
  | _, _, .cons (d := d) (ds := ds) r t, p => by
    have p' : (d.pure && pureAll ds) = true := p
    rw [Bool.and_eq_true] at p'
    exact .cons (RD.dp r p'.1) (RDs.dp t p'.2)
end
end

def addD : D → D → Res D
  | .int a, .int b => .ok (.int (a + b))
  | .str a, .str b => if a.length + b.length ≤ sizeLine then .ok (.str (a ++ b)) else .stuck
  | .tup a, .tup b => if a.length + b.length ≤ sizeLine then .ok (.tup (a ++ b)) else .stuck
  | .lst a, .lst b => if a.length + b.length ≤ sizeLine then .ok (.lst (a ++ b)) else .stuck
  | _, _ => .stuck
def iaddD : D → D → Res D
  | .int a, .int b => .ok (.int (a + b))
  | _, _ => .stuck
def subD : D → D → Res D
  | .int a, .int b => .ok (.int (a - b))
  | _, _ => .stuck
def mulOk (a b : Int) : Prop := ((-(2 ^ 64) < a ∧ a < 2 ^ 64) ∨ (-(2 ^ 64) < b ∧ b < 2 ^ 64)) ∨ (Builtin.Int.intBits a : Int) + (Builtin.Int.intBits b : Int) ≤ 134217728
instance (a b : Int) : Decidable (mulOk a b) := inferInstanceAs (Decidable (((_ ∧ _) ∨ (_ ∧ _)) ∨ _))
theorem mulOk_l {a b : Int} (h1 : -(2 ^ 64) < a) (h2 : a < 2 ^ 64) : mulOk a b := .inl (.inl ⟨h1, h2⟩)
theorem mulOk_r {a b : Int} (h1 : -(2 ^ 64) < b) (h2 : b < 2 ^ 64) : mulOk a b := .inl (.inr ⟨h1, h2⟩)
def mulD : D → D → Res D
  | .int a, .int b => if mulOk a b then .ok (.int (a * b)) else .stuck
  | .tup a, .int b => if a ≠ [] ∧ 1 ≤ b ∧ b ≤ 1000 ∧ a.length ≤ 1000 then .ok (.tup (List.replicate b.toNat a).flatten) else .stuck
  | _, _ => .stuck
def fdivD : D → D → Res D
  | .int a, .int b => if 0 < b ∧ b.natAbs.log2 < 9000 then .ok (.int (a / b)) else .stuck
  | _, _ => .stuck
def modD : D → D → Res D
  | .int a, .int b => if 0 < b then .ok (.int (a % b)) else .stuck
  | _, _ => .stuck
def powD : D → D → Res D
  | .int a, .int b => if 0 ≤ b ∧ b ≤ 1000000 ∧ a.natAbs < 2 ^ 64 then .ok (.int (a ^ b.toNat)) else .stuck
  | _, _ => .stuck
def negD : D → Res D
  | .int a => .ok (.int (-a))
  | _ => .stuck
def ltD : D → D → Res D
  | .int a, .int b => .ok (.bl (decide (a < b)))
  | _, _ => .stuck
def leD : D → D → Res D
  | .int a, .int b => .ok (.bl (decide (a ≤ b)))
  | _, _ => .stuck
def gtD : D → D → Res D
  | .int a, .int b => .ok (.bl (decide (b < a)))
  | _, _ => .stuck
def geD : D → D → Res D
  | .int a, .int b => .ok (.bl (decide (b ≤ a)))
  | _, _ => .stuck
def flatD (a : D) : Bool := a.pure && decide (a.py.depth ≤ 60)
def eqB (a b : D) : Bool := PyData.eqv a.py b.py
def eqF (a b : D) : Res D := if flatD a = true ∧ flatD b = true then .ok (.bl (eqB a b)) else .stuck
def neF (a b : D) : Res D := if flatD a = true ∧ flatD b = true then .ok (.bl (!eqB a b)) else .stuck
def eqD (a b : D) : Res D := match a, b with
  | .str x, .str y => .ok (.bl (x == y))
  | a, b => eqF a b
def neD (a b : D) : Res D := match a, b with
  | .str x, .str y => .ok (.bl (x != y))
  | a, b => neF a b
section
variable {X : Cx}
theorem op2_sub : Op2 X (binaryOp .Sub) subD := by
  refine ⟨fun a b c fs => by unfold subD; split <;> simp, fun pins s σ H x y v u Q I rx ry ⟨dx, dy, d, hx, hy, hg, q⟩ => ?_⟩
  unfold subD at hg
  split at hg
  · cases hg; cases hx; cases hy
    exact op_sub pins s σ H _ _ v u Q I rx ry ⟨_, _, rfl, rfl, q _ H (Same.refl H) (.int _)⟩
  · cases hg
theorem op_catF : OpR X (binaryOp .Add) (fun x y H Q => ∃ l b xs zs, x = .ref l ∧ y = .ref b ∧ FzL H l xs ∧ FzL H b zs ∧ xs.length + zs.length ≤ sizeLine ∧ ∀ p, H p = none → Q (.ref p) (upd H p (.lst (xs ++ zs)))) := by
  intro pins s σ H x y v u Q I rx ry h
  obtain ⟨l, b, xs, zs, rfl, rfl, ⟨o, hH⟩, ⟨o2, hB⟩, hz, q⟩ := h
  cases rx
  cases ry
  obtain ⟨_, z, its, n, r, e⟩ := I.hok l _ hH
  obtain ⟨_, z2, its2, n2, r2, e2⟩ := I.hok b _ hB
  have hl := r.length
  have hl2 := r2.length
  refine PySem.P.add_list e e2 ?_ (by rw [List.size_toArray, List.size_toArray]; omega)
  have ea : its.toArray ++ its2.toArray = (its ++ its2).toArray := by simp
  rw [ea]
  exact ⟨.ref _, _, I.lnew (t' := s.toks) (r.append r2) (by rw [List.length_append]; omega), rfl, q _ I.fresh⟩
theorem OpR.frz {f : Value → Value → Sem Value} {r : R2} (h : OpR X f r) : OpR X f (fun x y H Q => r x y H fun v H1 => Q v H1 ∨ ∃ a xs, v = .ref a ∧ H1 a = some (.lst xs) ∧ ∀ o, Q v (upd H1 a (.frz o (.lst xs)))) := by
  intro pins s σ H x y v u Q I rx ry q
  refine thn (h pins s σ H x y v u _ I rx ry q) fun u s1 ⟨v, H1, I1, r, q1⟩ => ?_
  rcases q1 with q1 | ⟨a, xs, rfl, ha, q1⟩
  · exact ⟨v, H1, I1, r, q1⟩
  · obtain ⟨o, I2⟩ := Inv.freeze I1 ha
    exact ⟨_, _, I2, r, q1 o⟩
theorem CallR.frz {f : Value} {r : List V → Hp → VK → Prop} (h : CallR X f r) : CallR X f (fun x H Q => r x H fun v H1 => Q v H1 ∨ ∃ a xs, v = .ref a ∧ H1 a = some (.lst xs) ∧ ∀ o, Q v (upd H1 a (.frz o (.lst xs)))) := by
  intro pins s σ H xs us Q I rx q
  refine thn (h pins s σ H xs us _ I rx q) fun u s1 ⟨v, H1, I1, r, q1⟩ => ?_
  rcases q1 with q1 | ⟨a, xs, rfl, ha, q1⟩
  · exact ⟨v, H1, I1, r, q1⟩
  · obtain ⟨o, I2⟩ := Inv.freeze I1 ha
    exact ⟨_, _, I2, r, q1 o⟩
theorem new_frozen {K : PySem.W.Frag} {mg : Str → Option Value} {H : Hp} {p : Addr} {xs : List V} {ds : List D} {Q : VK} (hp : H p = none) (r : RDs K mg H xs ds) (q : ∀ v H', Same H H' → RD K mg H' v (.lst ds) → Q v H') :
    Q (.ref p) (upd H p (.lst xs)) ∨ ∃ a ys, V.ref p = .ref a ∧ (upd H p (.lst xs)) a = some (.lst ys) ∧ ∀ o, Q (.ref p) (upd (upd H p (.lst xs)) a (.frz o (.lst ys))) := by
  refine .inr ⟨p, xs, rfl, upd_same, fun o => ?_⟩
  rw [upd_upd]
  exact q _ _ (same_new hp _) (.lst ⟨o, upd_same⟩ (RDs.ext (Ext.of_same (same_new hp _)) r))
theorem new_tuple {K : PySem.W.Frag} {mg : Str → Option Value} {H : Hp} {p : Addr} {o : Obj} {xs : List V} {ds : List D} {Q : VK} (hp : H p = none) (hd : o.dict = none) (r : RDs K mg H xs ds) (q : ∀ v H', Same H H' → RD K mg H' v (.tup ds) → Q v H') :
    Q (.ref p) (upd H p (.frz o (.tup xs))) := q _ _ (same_new hp _) (.tup (.inl ⟨o, upd_same, hd⟩) (RDs.ext (Ext.of_same (same_new hp _)) r))
def rCatZ (K : PySem.W.Frag) : R2 := fun x y H Q => ∃ a b xs ys, x = .ref a ∧ y = .ref b ∧ SqT K H a xs ∧ SqT K H b ys ∧ xs.length + ys.length ≤ sizeLine ∧
  (xs = [] → Q (.ref b) H) ∧ (xs ≠ [] → ys = [] → Q (.ref a) H) ∧ (xs ≠ [] → ys ≠ [] → ∀ p o, H p = none → o.dict = none → Q (.ref p) (upd H p (.frz o (.tup (xs ++ ys)))))
theorem op_catZ {X : Cx} : OpR X (binaryOp .Add) (rCatZ X.K) := by
  intro pins s σ H x y v u Q I rx ry ⟨a, b, xs, ys, ex, ey, ha, hb, hz, k0, k1, k2⟩
  by_cases e1 : xs = []
  · exact op_catA pins s σ H x y v u Q I rx ry ⟨a, b, xs, ys, ex, ey, ha, hb, hz, k0, fun n => absurd e1 n, fun n => absurd e1 n⟩
  by_cases e2 : ys = []
  · exact op_catA pins s σ H x y v u Q I rx ry ⟨a, b, xs, ys, ex, ey, ha, hb, hz, k0, k1, fun _ n => absurd e2 n⟩
  subst ex ey
  cases rx
  cases ry
  obtain ⟨its, r1, p1, _⟩ := I.tuple ha
  obtain ⟨jts, r2, p2, _⟩ := I.tuple hb
  refine HT.cat_tup p1 p2 (fun w => e1 (r1.nil_iff.mp w)) (fun w => absurd (r2.nil_iff.mp w) e2) (fun w => ?_) (by rw [← r1.length, ← r2.length]; exact hz)
  exact ⟨.ref s.heap.objs.size, _, nT (t' := s.toks) I (fun b u q => Heap.get?_push_of_some _ q) (by rw [List.length_append]; exact hz) (r1.append r2) (Heap.get?_push_size _ rfl), rfl, k2 e1 e2 _ _ (I.hok.fresh (Nat.le_refl _)) rfl⟩
theorem op2_add : Op2 X (binaryOp .Add) addD := by
  refine ⟨fun a b c fs => by unfold addD; split <;> (try split) <;> simp, fun pins s σ H x y v u Q I rx ry ⟨dx, dy, d, hx, hy, hg, q⟩ => ?_⟩
  unfold addD at hg
  split at hg
  · cases hg; cases hx; cases hy
    exact op_add pins s σ H _ _ v u Q I rx ry ⟨_, _, rfl, rfl, q _ H (Same.refl H) (.int _)⟩
  · split at hg
    · rename_i hz
      cases hg; cases hx; cases hy
      exact op_add_str pins s σ H _ _ v u Q I rx ry ⟨_, _, rfl, rfl, hz, q _ H (Same.refl H) (.str _)⟩
    · cases hg
  · split at hg
    · rename_i hz
      cases hg
      cases hx with
      | tup h1 r1 =>
        cases hy with
        | tup h2 r2 =>
          refine op_catZ pins s σ H _ _ v u Q I rx ry ⟨_, _, _, _, rfl, rfl, h1.seq, h2.seq, by rw [r1.length, r2.length]; exact hz, fun e => ?_, fun ne e => ?_, fun _ _ p o hp hd => ?_⟩
          · subst e
            cases r1
            exact q _ H (Same.refl H) (.tup h2 r2)
          · subst e
            cases r2
            rw [List.append_nil] at q
            exact q _ H (Same.refl H) (.tup h1 r1)
          · exact new_tuple hp hd (r1.append r2) q
    · cases hg
  · split at hg
    · rename_i hz
      cases hg
      cases hx with
      | lst h1 r1 =>
        cases hy with
        | lst h2 r2 => exact (OpR.frz op_catF) pins s σ H _ _ v u Q I rx ry ⟨_, _, _, _, rfl, rfl, h1, h2, by rw [r1.length, r2.length]; exact hz, fun p hp => new_frozen hp (r1.append r2) q⟩
    · cases hg
  · cases hg
end
end ML


namespace ML
open PySem PySem.Spec PyProof.Rows L2
variable [Tabs]
section
open AutoSeq1 (wpAny_loadPart')
set_option maxHeartbeats 4000000 in
theorem tuple_mul1 (l : Addr) (items : Array Value) (n : Nat) (dd : Option Addr) (sl : Array (Option Value)) (u : Tok) :
    Meets (Builtin.«tuple.__mul__» ⟨[.ref l, .int 1 u], []⟩) (fun _ R s => s.heap.get? l = some { cls := .type "tuple", dict := dd, data := .seq items n, slots := sl } ∧
      R (.ok (.ret (Value.ref l))) s) :=
  .of_wp fun prog w A R s h => by
    obtain ⟨hp, g, d, tk, os⟩ := s
    obtain ⟨hl, h⟩ := h
    have f1 := AutoSeq1.idx_int
    wp_walk using wpAny_loadPart' hl
    exact ⟨_, rfl, h⟩
end
theorem op_once {X : Cx} : OpR X (binaryOp .Mult) (fun x y H Q => ∃ l xs, x = .ref l ∧ y = .int 1 ∧ SqT X.K H l xs ∧ Q (.ref l) H) := by
  intro pins s σ H x y v u Q I rx ry h
  obtain ⟨l, xs, rfl, rfl, hT, q⟩ := h
  cases rx
  obtain ⟨t, rfl⟩ := ry
  obtain ⟨its, r, ⟨⟨cls, dd, data, sl⟩, ho, hc, n, hd⟩, hs⟩ := I.tuple hT
  simp only at hc hd
  subst hc hd
  refine wpAny_binaryOp_repeat_ref (T := "tuple") (U := "int") (by decide) ⟨_, ho, rfl⟩ (fun s' => typeIs_int s' 1 t) noFill_tuple_mul F.fills_int_mul F.slot_int_rmul repeat_tuple F.slot_int_index.lookup
    (call_meets F.slot_int_rmul (typeIs_int s 1 t) F.entry_int_rmul (F.args_int_rmul_2 _ _) (int_rmul_tuple 1 t l its.toArray n dd sl)
      ⟨ho, rfl, ⟨_, ho, rfl⟩, call_meets F.slot_tuple_mul ⟨_, ho, rfl⟩ F.entry_tuple_mul (F.args_tuple_mul_2 _ _) (tuple_mul1 l its.toArray n dd sl t) ⟨ho, ?_⟩⟩)
  exact ⟨.ref l, H, I, rfl, q⟩
section
variable {X : Cx} {EW : XK} {rf : List Nat}
theorem op_repZ {X : Cx} : OpR X (binaryOp .Mult) (fun x y H Q => ∃ l k xs, x = .ref l ∧ y = .int k ∧ SqT X.K H l xs ∧ xs ≠ [] ∧ 2 ≤ k ∧ k ≤ 1000 ∧ xs.length ≤ 1000 ∧ ∀ p o, H p = none → o.dict = none → Q (.ref p) (upd H p (.frz o (.tup (List.replicate k.toNat xs).flatten)))) := by
  intro pins s σ H x y v u Q I rx ry ⟨l, k, xs, ex, ey, hT, hne, k1, k2, hl, q⟩
  subst ex ey
  cases rx
  obtain ⟨t, rfl⟩ := ry
  obtain ⟨its, r, ⟨⟨oc, dd, od, osl⟩, ho, hc, n, hd⟩, _⟩ := I.tuple hT
  cases (show oc = _ from hc)
  cases (show od = _ from hd)
  have el : its.length = xs.length := r.length.symm
  have ne : its ≠ [] := fun e => hne (List.eq_nil_of_length_eq_zero (by rw [← el, e]; rfl))
  have em : its.toArray.isEmpty = false := by
    cases its with
    | nil => exact absurd rfl ne
    | cons a b => rfl
  have es : its.toArray.size = xs.length := by rw [List.size_toArray, el]
  have bd : ((its.toArray.size : Nat) : Int) * k ≤ 1000000 := by
    rw [es]
    have := Int.mul_le_mul_of_nonneg_right (show ((xs.length : Nat) : Int) ≤ 1000 by omega) (show (0 : Int) ≤ k by omega)
    omega
  have fl : k.toNat * xs.length ≤ 1000000 := Nat.mul_le_mul (show k.toNat ≤ 1000 by omega) hl
  have d0 : (decide (k < -(2 ^ 63)) || decide (k ≥ 2 ^ 63)) = false := by
    rw [decide_eq_false (by omega), decide_eq_false (by omega)]; rfl
  have d1 : (its.toArray.isEmpty || k == 1) = false := by
    rw [em, Bool.false_or]; exact beq_eq_false_iff_ne.mpr (by omega)
  have d2 : (decide (k ≤ 0) || its.toArray.isEmpty) = false := by
    rw [em, Bool.or_false]; exact decide_eq_false (by omega)
  have d4 : Builtin.Tuple.tupleTooMany (((its.toArray.size : Nat) : Int) * k) = false := by
    unfold Builtin.Tuple.tupleTooMany
    rw [sizeLine_eq]; exact decide_eq_false (by omega)
  refine wpAny_binaryOp_repeat_ref (T := "tuple") (U := "int") (by decide) ⟨_, ho, rfl⟩ (fun s' => typeIs_int s' k t) noFill_tuple_mul F.fills_int_mul F.slot_int_rmul repeat_tuple F.slot_int_index.lookup
    (call_meets F.slot_int_rmul (typeIs_int s k t) F.entry_int_rmul (F.args_int_rmul_2 _ _) (int_rmul_tuple k t l its.toArray n dd osl)
      ⟨ho, rfl, ⟨_, ho, rfl⟩, call_meets F.slot_tuple_mul ⟨_, ho, rfl⟩ F.entry_tuple_mul (F.args_tuple_mul_2 _ _) (tuple_mulW l its.toArray n dd osl k t d0 d1 d2 (by omega) d4 (by rw [size_rep, List.size_toArray, PyProof.Rows.lm_len_rep_flat, el, sizeLine_eq]; omega)) ⟨ho, ?_⟩⟩)
  rw [size_rep]
  exact ⟨.ref s.heap.objs.size, _, nT (t' := s.toks) I (fun b u q => Heap.get?_push_of_some _ q) (by rw [PyProof.Rows.lm_len_rep_flat, sizeLine_eq]; omega) (r.rep k.toNat) (Heap.get?_push_size _ rfl), rfl, q _ _ (I.hok.fresh (Nat.le_refl _)) rfl⟩
theorem call_tupleZ {X : Cx} : CallR X (.type "tuple") (fun xs H Q => ∃ p ys, xs = [.ref p] ∧ ((SqL X.K H p ys ∧ ∀ l o, H l = none → o.dict = none → Q (.ref l) (upd H l (.frz o (.tup ys)))) ∨ (SqT X.K H p ys ∧ Q (.ref p) H))) := by
  intro pins s σ H xs us Q I r ⟨p, ys, ex, h⟩
  rcases h with ⟨hq, q⟩ | ⟨hq, q⟩
  · subst ex
    obtain ⟨u, rfl, rx⟩ := vals1 r
    cases rx
    obtain ⟨its, rv, pl, hz⟩ := I.list hq
    refine call_tuple_list pl.isList (fun h' kp => ?_) (by rw [List.size_toArray, ← rv.length]; exact hz)
    have I1 : L2.Inv X pins σ H { s with heap := h' } := I.kept (t' := s.toks) kp
    exact ⟨.ref h'.objs.size, _, nT (s := { s with heap := h' }) (t' := s.toks) I1 (fun b u q => Heap.get?_push_of_some _ q) hz rv (Heap.get?_push_size _ rfl), rfl, q _ _ (I1.hok.fresh (Nat.le_refl _)) rfl⟩
  · exact call_tuple_of pins s σ H xs us Q I r ⟨p, ys, ex, .inr ⟨hq, q⟩⟩
theorem op2_mul : Op2 X (binaryOp .Mult) mulD := by
  refine ⟨fun a b c fs => by unfold mulD; split <;> (try split) <;> simp, fun pins s σ H x y v u Q I rx ry ⟨dx, dy, d, hx, hy, hg, q⟩ => ?_⟩
  unfold mulD at hg
  split at hg
  · split at hg
    · rename_i hz
      cases hg; cases hx; cases hy
      rcases hz with hz | hz
      · exact op_mul pins s σ H _ _ v u Q I rx ry ⟨_, _, rfl, rfl, hz, q _ H (Same.refl H) (.int _)⟩
      · exact op_mulX pins s σ H _ _ v u Q I rx ry ⟨_, _, rfl, rfl, hz, q _ H (Same.refl H) (.int _)⟩
    · cases hg
  · rename_i a' k'
    split at hg
    · rename_i hz
      obtain ⟨h0, h1, h2, h3⟩ := hz
      cases hg
      cases hy
      cases hx with
      | tup ht r =>
        by_cases one : k' = 1
        · subst one
          refine op_once pins s σ H _ _ v u Q I rx ry ⟨_, _, rfl, rfl, ht.seq, q _ H (Same.refl H) (.tup ht ?_)⟩
          simpa using r
        · refine op_repZ pins s σ H _ _ v u Q I rx ry ⟨_, _, _, rfl, rfl, ht.seq, fun e => ?_, by omega, h2, by rw [r.length]; exact h3, fun p o hp hd => new_tuple hp hd (r.flat _) q⟩
          subst e
          cases r
          exact h0 rfl
    · cases hg
  · cases hg
theorem op2_fdiv : Op2 X (binaryOp .FloorDiv) fdivD := by
  refine ⟨fun a b c fs => by unfold fdivD; split <;> (try split) <;> simp, fun pins s σ H x y v u Q I rx ry ⟨dx, dy, d, hx, hy, hg, q⟩ => ?_⟩
  unfold fdivD at hg
  split at hg
  · split at hg
    · rename_i hz
      cases hg; cases hx; cases hy
      exact op_fdivW pins s σ H _ _ v u Q I rx ry ⟨_, _, rfl, rfl, hz, q _ H (Same.refl H) (.int _)⟩
    · cases hg
  · cases hg
theorem op2_mod : Op2 X (binaryOp .Mod) modD := by
  refine ⟨fun a b c fs => by unfold modD; split <;> (try split) <;> simp, fun pins s σ H x y v u Q I rx ry ⟨dx, dy, d, hx, hy, hg, q⟩ => ?_⟩
  unfold modD at hg
  split at hg
  · split at hg
    · rename_i hz
      cases hg; cases hx; cases hy
      exact op_mod pins s σ H _ _ v u Q I rx ry ⟨_, _, rfl, rfl, hz, q _ H (Same.refl H) (.int _)⟩
    · cases hg
  · cases hg
theorem op2_pow : Op2 X (binaryOp .Pow) powD := by
  refine ⟨fun a b c fs => by unfold powD; split <;> (try split) <;> simp, fun pins s σ H x y v u Q I rx ry ⟨dx, dy, d, hx, hy, hg, q⟩ => ?_⟩
  unfold powD at hg
  split at hg
  · split at hg
    · rename_i hz
      cases hg; cases hx; cases hy
      exact op_pow pins s σ H _ _ v u Q I rx ry ⟨_, _, rfl, rfl, hz, q _ H (Same.refl H) (.int _)⟩
    · cases hg
  · cases hg
theorem op1_neg : Op1 X (unaryOp .USub) negD := by
  refine ⟨fun a c fs => by unfold negD; split <;> simp, fun pins s σ H x v Q I rx ⟨dx, d, hx, hg, q⟩ => ?_⟩
  unfold negD at hg
  split at hg
  · cases hg; cases hx
    exact un_neg pins s σ H _ v Q I rx ⟨_, rfl, q _ H (Same.refl H) (.int _)⟩
  · cases hg
theorem op2_lt : Op2 X (compareOp .Lt) ltD := by
  refine ⟨fun a b c fs => by unfold ltD; split <;> simp, fun pins s σ H x y v u Q I rx ry ⟨dx, dy, d, hx, hy, hg, q⟩ => ?_⟩
  unfold ltD at hg
  split at hg
  · cases hg; cases hx; cases hy
    exact op_lt pins s σ H _ _ v u Q I rx ry ⟨_, _, rfl, rfl, q _ H (Same.refl H) (.bl _)⟩
  · cases hg
theorem op2_le : Op2 X (compareOp .LtE) leD := by
  refine ⟨fun a b c fs => by unfold leD; split <;> simp, fun pins s σ H x y v u Q I rx ry ⟨dx, dy, d, hx, hy, hg, q⟩ => ?_⟩
  unfold leD at hg
  split at hg
  · cases hg; cases hx; cases hy
    exact op_le pins s σ H _ _ v u Q I rx ry ⟨_, _, rfl, rfl, q _ H (Same.refl H) (.bl _)⟩
  · cases hg
theorem op2_gt : Op2 X (compareOp .Gt) gtD := by
  refine ⟨fun a b c fs => by unfold gtD; split <;> simp, fun pins s σ H x y v u Q I rx ry ⟨dx, dy, d, hx, hy, hg, q⟩ => ?_⟩
  unfold gtD at hg
  split at hg
  · cases hg; cases hx; cases hy
    exact op_gt pins s σ H _ _ v u Q I rx ry ⟨_, _, rfl, rfl, q _ H (Same.refl H) (.bl _)⟩
  · cases hg
theorem op2_ge : Op2 X (compareOp .GtE) geD := by
  refine ⟨fun a b c fs => by unfold geD; split <;> simp, fun pins s σ H x y v u Q I rx ry ⟨dx, dy, d, hx, hy, hg, q⟩ => ?_⟩
  unfold geD at hg
  split at hg
  · cases hg; cases hx; cases hy
    exact op_ge pins s σ H _ _ v u Q I rx ry ⟨_, _, rfl, rfl, q _ H (Same.refl H) (.bl _)⟩
  · cases hg
theorem flatD_reads {pins : List (Addr × Obj)} {s : Shared} {σ : L2.St} {H : Hp} {d : D} {v : V} {u : Value} (I : L2.Inv X pins σ H s) (f : flatD d = true) (r : RD X.K X.mg H v d) (ru : RelV v u) : (∃ as, Reads s.heap u d.py as) ∧ d.py.canLay0 = true ∧ d.py.depth ≤ 60 := by
  unfold flatD at f
  rw [Bool.and_eq_true] at f
  exact ⟨Dp.reads I d.py v u (r.dp f.1) ru, canLay_py d f.1, of_decide_eq_true f.2⟩
theorem op2_eq (hr : ∃ k, Room k X.A) : Op2 X (compareOp .Eq) eqD := by
  refine ⟨fun a b c fs => by unfold eqD; split <;> (try unfold eqF) <;> (try split) <;> simp, fun pins s σ H x y v u Q I rx ry ⟨dx, dy, d, hx, hy, hg, q⟩ => ?_⟩
  obtain ⟨k, hr⟩ := hr
  unfold eqD at hg
  split at hg
  · cases hg; cases hx; cases hy
    obtain ⟨t, rfl⟩ := rx
    obtain ⟨t', rfl⟩ := ry
    exact PyProof.Rows.eq_str ⟨.bl _, H, I, rfl, q _ H (Same.refl H) (.bl _)⟩
  unfold eqF at hg
  split at hg
  · rename_i hf
    cases hg
    obtain ⟨⟨as, r1⟩, l1, d1⟩ := flatD_reads I hf.1 hx rx
    obtain ⟨⟨bs, r2⟩, l2, d2⟩ := flatD_reads I hf.2 hy ry
    have := hr.units
    refine SeqAt.compareEq_reads r1 r2 l1 l2 ?_ ⟨.bl _, H, I, rfl, q _ H (Same.refl H) (.bl _)⟩
    have : min dx.py.depth dy.py.depth ≤ 60 := Nat.le_trans (Nat.min_le_left _ _) d1
    omega
  · cases hg
theorem op2_ne (hr : ∃ k, Room k X.A) : Op2 X (compareOp .NotEq) neD := by
  refine ⟨fun a b c fs => by unfold neD; split <;> (try unfold neF) <;> (try split) <;> simp, fun pins s σ H x y v u Q I rx ry ⟨dx, dy, d, hx, hy, hg, q⟩ => ?_⟩
  obtain ⟨k, hr⟩ := hr
  unfold neD at hg
  split at hg
  · cases hg; cases hx; cases hy
    obtain ⟨t, rfl⟩ := rx
    obtain ⟨t', rfl⟩ := ry
    exact PyProof.Rows.ne_str ⟨.bl _, H, I, rfl, q _ H (Same.refl H) (.bl _)⟩
  unfold neF at hg
  split at hg
  · rename_i hf
    cases hg
    obtain ⟨⟨as, r1⟩, l1, d1⟩ := flatD_reads I hf.1 hx rx
    obtain ⟨⟨bs, r2⟩, l2, d2⟩ := flatD_reads I hf.2 hy ry
    have := hr.units
    refine SeqAt.compareNe_reads r1 r2 l1 l2 ?_ ⟨.bl _, H, I, rfl, q _ H (Same.refl H) (.bl _)⟩
    have : min dx.py.depth dy.py.depth ≤ 60 := Nat.le_trans (Nat.min_le_left _ _) d1
    omega
  · cases hg
def inB (a : D) (ds : List D) : Bool := (pyAll ds).any fun y => PyData.eqv y a.py
def inD (a b : D) : Res D := match b with
  | .tup ds => if flatD a = true ∧ flatD (.tup ds) = true then .ok (.bl (inB a ds)) else .stuck
  | .lst ds => if flatD a = true ∧ flatD (.lst ds) = true then .ok (.bl (inB a ds)) else .stuck
  | _ => .stuck
theorem op2_in (hr : ∃ k, Room k X.A) : Op2 X (compareOp .In) inD := by
  refine ⟨fun a b c fs => by unfold inD; split <;> (try split) <;> simp, fun pins s σ H x y v u Q I rx ry ⟨dx, dy, d, hx, hy, hg, q⟩ => ?_⟩
  obtain ⟨k, hr⟩ := hr
  have := hr.units
  unfold inD at hg
  split at hg
  · rename_i ds
    split at hg
    · rename_i hf
      cases hg
      obtain ⟨⟨as, r1⟩, l1, d1⟩ := flatD_reads I hf.1 hx rx
      obtain ⟨⟨bs, r2⟩, l2, d2⟩ := flatD_reads I hf.2 hy ry
      refine SeqAt.in_tuple_reads r2 r1 l2 l1 ?_ ⟨.bl _, H, I, rfl, q _ H (Same.refl H) (.bl _)⟩
      have : min (PyData.depthAll (pyAll ds)) dx.py.depth ≤ 60 := Nat.le_trans (Nat.min_le_right _ _) d1
      omega
    · cases hg
  · rename_i ds
    split at hg
    · rename_i hf
      cases hg
      obtain ⟨⟨as, r1⟩, l1, d1⟩ := flatD_reads I hf.1 hx rx
      obtain ⟨⟨bs, r2⟩, l2, d2⟩ := flatD_reads I hf.2 hy ry
      refine SeqAt.in_list_reads r2 r1 l2 l1 ?_ ⟨.bl _, H, I, rfl, q _ H (Same.refl H) (.bl _)⟩
      have : min (PyData.depthAll (pyAll ds)) dx.py.depth ≤ 60 := Nat.le_trans (Nat.min_le_right _ _) d1
      omega
    · cases hg
  · cases hg
def isN (neg : Bool) (ma : ME) : ME := mLast ma fun d => .ok (.bl (match d with
  | .non => !neg
  | _ => neg))
theorem le_type {x : Str} {n : String} {pos : Pos} (hg : Gl X x) (hm : X.mg x = none) (hv : bootBuiltins x = some (.type n)) (hn : x ≠ "__name__" := by decide) (hd : (x == ("__debug__" : Str)) = false := by decide) : LE X EW rf (.Name x pos) (eC (.ty n)) :=
  le_const (pe_bltn (v := .ty n) hg hm hv rfl hn hd) fun _ => .ty n

def seqLen : D → Option Nat
  | .lst xs => some xs.length
  | .tup xs => some xs.length
  | .klst xs => some xs.length
  | .str x => if x.length ≤ sizeLine then some x.length else none
  | _ => none
def lenD (ds : List D) : Res D := match ds with
  | [d] => (match seqLen d with
    | some n => .ok (.int (n : Int))
    | none => .stuck)
  | _ => .stuck
theorem RDs.one {K : PySem.W.Frag} {mg : Str → Option Value} {H : Hp} {vs : List V} {d : D} (r : RDs K mg H vs [d]) : ∃ v, vs = [v] ∧ RD K mg H v d := by
  cases r with
  | cons r t => cases t; exact ⟨_, rfl, r⟩
theorem RDs.two {K : PySem.W.Frag} {mg : Str → Option Value} {H : Hp} {vs : List V} {d e : D} (r : RDs K mg H vs [d, e]) : ∃ v w, vs = [v, w] ∧ RD K mg H v d ∧ RD K mg H w e := by
  cases r with
  | cons r t =>
    obtain ⟨w, rfl, h⟩ := RDs.one t
    exact ⟨_, _, rfl, r, h⟩
theorem bn_len : Bn X (.builtin "len") lenD := by
  refine ⟨fun a c fs => by unfold lenD; split <;> (try split) <;> simp, fun pins s σ H xs us Q I rx ⟨ds, d, hx, hg, q⟩ => ?_⟩
  unfold lenD at hg
  split at hg
  · rename_i d0
    obtain ⟨v, rfl, r⟩ := hx.one
    split at hg
    · rename_i n hn
      cases hg
      unfold seqLen at hn
      split at hn
      · cases hn
        cases r with
        | lst h r => exact call_len_seq pins s σ H _ us Q I rx ⟨_, _, rfl, .inl h.seq, by rw [r.length]; exact q _ H (Same.refl H) (.int _)⟩
      · cases hn
        cases r with
        | tup h r => exact call_len_seq pins s σ H _ us Q I rx ⟨_, _, rfl, .inr h.seq, by rw [r.length]; exact q _ H (Same.refl H) (.int _)⟩
      · cases hn
        cases r with
        | klst h r => exact call_len_seq pins s σ H _ us Q I rx ⟨_, _, rfl, .inl h.seq, by rw [r.length]; exact q _ H (Same.refl H) (.int _)⟩
      · split at hn
        · rename_i hz
          cases hn; cases r
          exact call_len_str pins s σ H _ us Q I rx ⟨_, rfl, hz, q _ H (Same.refl H) (.int _)⟩
        · cases hn
      · cases hn
    · cases hg
  · cases hg
def absD (ds : List D) : Res D := match ds with
  | [.int i] => .ok (.int (if i < 0 then -i else i))
  | _ => .stuck
def intD (ds : List D) : Res D := match ds with
  | [.int i] => .ok (.int i)
  | [.bl b] => .ok (.int (if b then 1 else 0))
  | _ => .stuck
theorem bn_int : Bn X (.type "int") intD := by
  refine ⟨fun a c fs => by unfold intD; split <;> simp, fun pins s σ H xs us Q I rx ⟨ds, d, hx, hg, q⟩ => ?_⟩
  unfold intD at hg
  split at hg
  · cases hg
    obtain ⟨v, rfl, r⟩ := hx.one
    cases r
    exact call_int1 pins s σ H _ us Q I rx (.inl ⟨_, rfl, q _ H (Same.refl H) (.int _)⟩)
  · cases hg
    obtain ⟨v, rfl, r⟩ := hx.one
    cases r
    exact call_int1 pins s σ H _ us Q I rx (.inr ⟨_, rfl, q _ H (Same.refl H) (.int _)⟩)
  · cases hg
def tyName : D → Option String
  | .non => some "NoneType"
  | .bl _ => some "bool"
  | .int _ => some "int"
  | .str _ => some "str"
  | .tup _ => some "tuple"
  | .lst _ => some "list"
  | _ => none
def basicTy : List String := ["NoneType", "bool", "int", "str", "tuple", "list"]
def isB (t n : String) : Bool := t == n || (t == "bool" && n == "int")
theorem kitB_basic : ∀ t ∈ basicTy, ∀ n ∈ ["bool", "int", "str", "tuple", "list"], kitB t n = some (isB t n) := by decide +kernel
def isiD (ds : List D) : Res D := match ds with
  | [x, .ty n] => (match tyName x with
    | some t => if n ∈ ["bool", "int", "str", "tuple", "list"] then .ok (.bl (isB t n)) else .stuck
    | none => .stuck)
  | _ => .stuck
theorem tyName_mem {d : D} {t : String} (h : tyName d = some t) : t ∈ basicTy := by
  unfold tyName at h
  split at h <;> first | (cases h; decide) | cases h
theorem tyName_is {H : Hp} {v : V} {d : D} {t : String} (h : tyName d = some t) (r : RD X.K X.mg H v d) : TyX X.K H v (.type t) := by
  unfold tyName at h
  split at h
  · cases h; cases r; exact .base .non
  · cases h; cases r; exact .base (.bl _)
  · cases h; cases r; exact .base (.int _)
  · cases h; cases r; exact .base (.str _)
  · cases h
    cases r with
    | tup h r =>
      rcases h with ⟨o, h, _⟩ | ⟨o, its, n, h, hc, _⟩
      · exact .fTuple h
      · exact .kTuple h hc
  · cases h
    cases r with
    | lst h r =>
      obtain ⟨o, h⟩ := h
      exact .base (.frz h)
  · cases h
theorem bn_isi : Bn X (.builtin "isinstance") isiD := by
  refine ⟨fun a c fs => by unfold isiD; split <;> (try split) <;> (try split) <;> simp, fun pins s σ H xs us Q I rx ⟨ds, d, hx, hg, q⟩ => ?_⟩
  unfold isiD at hg
  split at hg
  · rename_i x n
    split at hg
    · rename_i t ht
      split at hg
      · rename_i hn
        cases hg
        obtain ⟨v, w, rfl, r, r2⟩ := hx.two
        cases r2
        exact call_isi pins s σ H _ us Q I rx ⟨_, _, _, _, _, rfl, .ty n, tyName_is ht r, kit_ty (kitB_basic t (tyName_mem ht) n hn), q _ H (Same.refl H) (.bl _)⟩
      · cases hg
    · cases hg
  · cases hg
def tupleD (ds : List D) : Res D := match ds with
  | [.tup xs] => .ok (.tup xs)
  | [.lst xs] => .ok (.tup xs)
  | _ => .stuck
theorem bn_tuple : Bn X (.type "tuple") tupleD := by
  refine ⟨fun a c fs => by unfold tupleD; split <;> simp, fun pins s σ H xs us Q I rx ⟨ds, d, hx, hg, q⟩ => ?_⟩
  unfold tupleD at hg
  split at hg
  · cases hg
    obtain ⟨v, rfl, r⟩ := hx.one
    cases r with
    | tup h r => exact call_tupleZ pins s σ H _ us Q I rx ⟨_, _, rfl, .inr ⟨h.seq, q _ H (Same.refl H) (.tup h r)⟩⟩
  · cases hg
    obtain ⟨v, rfl, r⟩ := hx.one
    cases r with
    | lst h r => exact call_tupleZ pins s σ H _ us Q I rx ⟨_, _, rfl, .inl ⟨h.seq, fun p o hp hd => new_tuple hp hd r q⟩⟩
  · cases hg
def allInts : List D → Option (List Int)
  | [] => some []
  | .int i :: r => (allInts r).map (i :: ·)
  | _ => none
theorem allInts_eq : ∀ {ds : List D} {ns : List Int}, allInts ds = some ns → ds = ns.map D.int
  | [], ns, h => by cases h; rfl
  | d :: r, ns, h => by
    unfold allInts at h
    split at h
    · rename_i e
      cases e
    · rename_i i r' e
      cases e
      cases hr : allInts r with
      | none => rw [hr] at h; cases h
      | some ms =>
        rw [hr] at h
        cases h
        rw [allInts_eq hr]
        rfl
    · cases h
theorem allInts_map : ∀ ns : List Int, allInts (ns.map D.int) = some ns
  | [] => rfl
  | n :: r => by show (allInts (r.map D.int)).map (n :: ·) = _; rw [allInts_map r]; rfl
section
variable {prog : Program} {w : World} {A : Around} {E : Value → Shared → Prop} {s : Shared} {l : Addr} {its : List Value} {ns : List Int} {Q : Value → Shared → Prop}
theorem iter_intTup {xs : Array (Int × Tok)} (hl : s.heap.IsTuple l (intItems xs))
    (h : ∀ s₂ : Shared, s₂ = { s with heap := s.heap.push { cls := .type "tuple_iterator", data := .fields #[.ref l, .int 0 0] } } →
      (s₂.heap.IsTupleIter s.heap.objs.size l 0 ∧ s₂.heap.IsTuple l (intItems xs)) → (∀ b ∈ [s.heap.objs.size, l], b < s₂.heap.objs.size) → l ≠ s.heap.objs.size → Q (.ref s.heap.objs.size) s₂) :
    wpAny (model prog w) A (pyIter (.ref l)) Q E s := by
  have hlt : l < s.heap.objs.size := by obtain ⟨_, e, _⟩ := hl; exact Heap.lt_size e
  refine wpAny_pyIter_tuple hl (h _ rfl ⟨⟨_, Heap.get?_push_size _ rfl, rfl, rfl⟩, hl.push _⟩ (fun b hb => ?_) (Nat.ne_of_lt hlt))
  show b < (s.heap.push _).objs.size
  rw [Heap.size_push]
  rcases List.mem_cons.mp hb with rfl | hb
  · exact Nat.lt_succ_self _
  · rcases List.mem_cons.mp hb with rfl | hb
    · exact Nat.lt_succ_of_lt hlt
    · cases hb
theorem old_keptT {h' : Heap} (hk : ∀ b o, b ∉ [s.heap.objs.size] → (s.heap.push { cls := .type "tuple_iterator", data := .fields #[.ref l, .int 0 0] }).get? b = some o → h'.get? b = some o) :
    ∀ b o, s.heap.get? b = some o → h'.get? b = some o := fun b o e => by
  refine hk b o (fun hm => ?_) (Heap.get?_push_of_some _ e)
  rcases List.mem_cons.mp hm with e1 | hm
  · exact absurd (e1 ▸ Heap.lt_size e) (Nat.lt_irrefl _)
  · cases hm
theorem max_intTup {xs : Array (Int × Tok)} (hh : A.handled = none) (hl : s.heap.IsTuple l (intItems xs)) (hne : 0 < xs.size)
    (h : ∀ v h' tk, (intItems xs)[argBest (fun i j => decide (numAt xs i > numAt xs j)) (xs.size - 1)]? = some v → (∀ b o, s.heap.get? b = some o → h'.get? b = some o) → Q v { s with heap := h', toks := tk }) :
    wpAny (model prog w) A (call (.builtin "max") [.ref l]) Q E s := by
  refine call_max_walk (iter_intTup hl fun s₂ e st hfp hlI => ?_)
  subst e
  refine ⟨_, _, _, _, _, _, _, rfl, Walks.tuple (A := A.in1) hh _ l hlI (intItems xs), st, hfp, by simpa [intItems] using hne, CmpOf.ints_gt (numAt xs) (fun _ _ => intItems_at), fun v h' tk hP hk => ?_⟩
  exact h v h' tk (by simpa [intItems] using hP) (old_keptT hk)
theorem max_rawT (hh : A.handled = none) (hl : s.heap.IsTuple l its.toArray) (hi : IntsAre its ns) (hne : 0 < ns.length)
    (h : ∀ h' tk M t', (∀ b o, s.heap.get? b = some o → h'.get? b = some o) → M ∈ ns → (∀ a, a ∈ ns → a ≤ M) → Q (.int M t') { s with heap := h', toks := tk }) : wpAny (model prog w) A (call (.builtin "max") [.ref l]) Q E s := by
  obtain ⟨xs, e⟩ := hi.allInts.items
  have hn : numsOf (intItems xs).toList = ns := by rw [← e]; exact hi.numsOf
  rw [nums_intItems] at hn
  subst hn
  rw [e] at hl
  have hsz : 0 < xs.size := by simpa using hne
  refine max_intTup hh hl hsz fun v h' tk hv hk => ?_
  obtain ⟨t, rfl⟩ := intItems_at hv
  obtain ⟨h1, h2⟩ := argBest_gt (numAt xs) (xs.size - 1)
  refine h h' tk _ t hk ?_ fun a ha => ?_
  · rw [numAt_eq]; exact PySem.getD_mem (by rw [List.length_map, Array.length_toList]; omega)
  · obtain ⟨j, hj, rfl⟩ := mem_getD ha
    rw [List.length_map, Array.length_toList] at hj
    rw [← numAt_eq]; exact h2 j (by omega)
end
def rMaxT (K : PySem.W.Frag) : List V → Hp → VK → Prop := fun vs H Q => ∃ (a : Addr) (ns : List Int), vs = [V.ref a] ∧ SqT K H a (ns.map V.int) ∧ 0 < ns.length ∧ ∀ m, m ∈ ns → (∀ y, y ∈ ns → y ≤ m) → Q (.int m) H
theorem cr_maxT {X : Cx} (hc : X.calm = true) : CallR X (.builtin "max") (rMaxT X.K) := by
  intro pins s σ H vs us Q I r h
  obtain ⟨a, ns, rfl, hs, hne, q⟩ := h
  obtain ⟨its, rv, hl, _⟩ := I.tuple hs
  rw [Vals.ref1 r]
  exact max_rawT (I.ok.hd hc) hl rv.ints hne fun h' tk m t' hk h1 h2 => ⟨.int _, H, I.kept hk, ⟨_, rfl⟩, q m h1 h2⟩
def sumD (ds : List D) : Res D := match ds with
  | [.lst xs] => (match allInts xs with
    | some ns => .ok (.int ns.sum)
    | none => .stuck)
  | [.tup xs] => (match allInts xs with
    | some ns => .ok (.int ns.sum)
    | none => .stuck)
  | _ => .stuck
def maxI : List Int → Int
  | [] => 0
  | [a] => a
  | a :: r => max a (maxI r)
def minI : List Int → Int
  | [] => 0
  | [a] => a
  | a :: r => min a (minI r)
theorem maxI_mem : ∀ {l : List Int}, l ≠ [] → maxI l ∈ l
  | [a], _ => by simp [maxI]
  | a :: b :: r, _ => by
    have ih := maxI_mem (l := b :: r) (by simp)
    show max a (maxI (b :: r)) ∈ _
    rcases Int.le_total a (maxI (b :: r)) with h | h
    · rw [Int.max_eq_right h]; exact List.mem_cons_of_mem _ ih
    · rw [Int.max_eq_left h]; exact List.mem_cons_self
theorem le_maxI : ∀ {l : List Int} {x : Int}, x ∈ l → x ≤ maxI l
  | [a], x, h => by simp [maxI] at h ⊢; omega
  | a :: b :: r, x, h => by
    show x ≤ max a (maxI (b :: r))
    rcases List.mem_cons.mp h with e | h
    · subst e; exact Int.le_max_left _ _
    · exact Int.le_trans (le_maxI h) (Int.le_max_right _ _)
def maxD (ds : List D) : Res D := match ds with
  | [.int i, .int j] => .ok (.int (if j > i then j else i))
  | [.lst xs] => (match allInts xs with
    | some (n :: ns) => .ok (.int (maxI (n :: ns)))
    | _ => .stuck)
  | [.tup xs] => (match allInts xs with
    | some (n :: ns) => .ok (.int (maxI (n :: ns)))
    | _ => .stuck)
  | _ => .stuck
def minD (ds : List D) : Res D := match ds with
  | [.int i, .int j] => .ok (.int (if j < i then j else i))
  | [.lst xs] => (match allInts xs with
    | some (n :: ns) => .ok (.int (minI (n :: ns)))
    | _ => .stuck)
  | [.tup xs] => (match allInts xs with
    | some (n :: ns) => .ok (.int (minI (n :: ns)))
    | _ => .stuck)
  | _ => .stuck
theorem bn_max (hc : X.calm = true) : Bn X (.builtin "max") maxD := by
  refine ⟨fun a c fs => by unfold maxD; split <;> (try split) <;> simp, fun pins s σ H xs us Q I rx ⟨ds, d, hx, hg, q⟩ => ?_⟩
  unfold maxD at hg
  split at hg
  · cases hg
    obtain ⟨v, w, rfl, r, r2⟩ := hx.two
    cases r; cases r2
    exact call_max2 hc pins s σ H _ us Q I rx ⟨_, _, rfl, q _ H (Same.refl H) (.int _)⟩
  · split at hg
    · rename_i n ns hn
      cases hg
      obtain ⟨v, rfl, r⟩ := hx.one
      cases r with
      | lst h r =>
        rw [allInts_eq hn] at r
        have e := RDs.of_ints (n :: ns) r
        subst e
        refine cr_max hc pins s σ H _ us Q I rx ⟨_, n :: ns, rfl, h.seq, by simp, fun m hm hle => ?_⟩
        have em : m = maxI (n :: ns) := Int.le_antisymm (le_maxI hm) (hle _ (maxI_mem (by simp)))
        subst em
        exact q _ H (Same.refl H) (.int _)
    · cases hg
  · split at hg
    · rename_i n ns hn
      cases hg
      obtain ⟨v, rfl, r⟩ := hx.one
      cases r with
      | tup h r =>
        rw [allInts_eq hn] at r
        have e := RDs.of_ints (n :: ns) r
        subst e
        refine cr_maxT hc pins s σ H _ us Q I rx ⟨_, n :: ns, rfl, h.seq, by simp, fun m hm hle => ?_⟩
        have em : m = maxI (n :: ns) := Int.le_antisymm (le_maxI hm) (hle _ (maxI_mem (by simp)))
        subst em
        exact q _ H (Same.refl H) (.int _)
    · cases hg
  · cases hg
end
end ML


namespace ML
open PySem PySem.Spec PyProof.Rows L2
variable [Tabs]

def sqK (k : Bool) (K : PySem.W.Frag) (H : Hp) (a : Addr) (xs : List V) : Prop := match k with
  | true => SqL K H a xs
  | false => SqT K H a xs
def itK (k : Bool) (h : Heap) (it a : Addr) (i : Nat) : Prop := match k with
  | true => h.IsListIter it a i
  | false => h.IsTupleIter it a i
def obK (k : Bool) (h : Heap) (a : Addr) (its : Array Value) : Prop := match k with
  | true => h.IsList a its
  | false => h.IsTuple a its
theorem obK_of {X : Cx} {pins : List (Addr × Obj)} {σ : L2.St} {H : Hp} {s : Shared} {a : Addr} {xs : List V} (k : Bool) (I : L2.Inv X pins σ H s) (h : sqK k X.K H a xs) : ∃ its : List Value, Vals xs its ∧ obK k s.heap a its.toArray ∧ a < s.heap.objs.size := by
  cases k with
  | true =>
    obtain ⟨its, r, p, _⟩ := I.list h
    exact ⟨its, r, p.isList, p.lt⟩
  | false =>
    obtain ⟨its, r, p, _⟩ := I.tuple h
    exact ⟨its, r, p, p.lt⟩
theorem sqK_inj {X : Cx} {pins : List (Addr × Obj)} {σ : L2.St} {H : Hp} {s : Shared} {a : Addr} {xs ys : List V} {k : Bool} (I : L2.Inv X pins σ H s) (h : sqK k X.K H a xs) (h2 : sqK k X.K H a ys) : xs = ys := by
  cases k with
  | true => exact I.list_inj h h2
  | false => exact I.tuple_inj h h2
theorem drK {prog : Program} {w : World} {A : Around} (hh : A.handled = none) (k : Bool) (it l : Addr) (hne : l ≠ it) (items : Array Value) : Draws prog w A it [it, l] items.size (fun i v => items[i]? = some v) (fun i h => itK k h it l i ∧ obK k h l items) := by
  cases k with
  | true => exact Draws.list hh it l hne items
  | false => exact Draws.tuple hh it l hne items
theorem itK_obj {k : Bool} {h : Heap} {it a : Addr} {i : Nat} (x : itK k h it a i) : ∃ o, h.get? it = some o ∧ ∀ v, o.data ≠ .cell v := by
  cases k with
  | true => obtain ⟨o, e, _, d⟩ := x; exact ⟨o, e, fun v q => by rw [d] at q; cases q⟩
  | false => obtain ⟨o, e, _, d⟩ := x; exact ⟨o, e, fun v q => by rw [d] at q; cases q⟩
theorem itK_at {k : Bool} {h h' : Heap} {it a : Addr} {i : Nat} (x : itK k h it a i) (hk : ∀ o, h.get? it = some o → h'.get? it = some o) : itK k h' it a i := by
  cases k with
  | true => obtain ⟨o, e, r⟩ := x; exact ⟨o, hk o e, r⟩
  | false => obtain ⟨o, e, r⟩ := x; exact ⟨o, hk o e, r⟩
theorem bgK (k : Bool) (a : Addr) (items : Array Value) : ∃ o, Begins (.ref a) o (fun h => obK k h a items) ∧ ∀ (h : Heap) (it : Addr), h.get? it = some o → itK k h it a 0 := by
  cases k with
  | true => exact ⟨_, begins_list a items, fun h it e => ⟨_, e, rfl, rfl⟩⟩
  | false => exact ⟨_, begins_tuple a items, fun h it e => ⟨_, e, rfl, rfl⟩⟩
section
variable {X : Cx} {EW : XK} {rf : List Nat} {H : Hp}
theorem sq_any {v : V} {d : D} {ds : List D} (r : RD X.K X.mg H v d) (h : asAny d = .ok ds) : ∃ k a xs, v = .ref a ∧ RDs X.K X.mg H xs ds ∧ ∀ H2, Ext H H2 → sqK k X.K H2 a xs := by
  unfold asAny at h
  split at h
  · cases h
    cases r with
    | lst h r => exact ⟨true, _, _, rfl, r, fun H2 e => (h.ext e).seq⟩
  · cases h
    cases r with
    | tup h r => exact ⟨false, _, _, rfl, r, fun H2 e => (TpT.ext e h).seq⟩
  · cases h
def zipD (ds : List D) : Res (List D) := match ds with
  | [a, b] => (match asAny a, asAny b with
    | .ok xs, .ok ys => .ok (List.zipWith (fun x y => D.tup [x, y]) xs ys)
    | _, _ => .stuck)
  | _ => .stuck
end
end ML


namespace ML
open PySem PySem.Spec PyProof.Rows L2
variable [Tabs]

section
variable {X : Cx} {EW : XK} {rf : List Nat}
theorem lv (i : Nat) {x : Str} {pos : Pos} (hN : X.N[i]? = some x := by rfl) (hv : Vis X.env.scope x := by first | exact Or.inl rfl | exact Or.inr (Or.inl rfl) | exact Or.inr (Or.inr rfl)) (hd : (x == ("__debug__" : Str)) = false := by decide) (hcd : (x == ("__classdict__" : Str)) = false := by decide) :
    LE X EW rf (.Name x pos) (eVar i) := le_var hN hv hd hcd
theorem lgi {x : Str} {i : Int} {pos : Pos} (hm : ∃ t, X.mg x = some (.int i t)) (hg : Gl X x := by rfl) (hd : (x == ("__debug__" : Str)) = false := by decide) : LE X EW rf (.Name x pos) (eC (.int i)) :=
  ⟨fun H0 A hA => by obtain ⟨t, e⟩ := hm; exact (le_glob (rf := rf) (EW := EW) (v := .int i) hg e ⟨t, rfl⟩ (fun _ => .int i) hd).run H0 A hA⟩
end

section
variable {P : Program} {w : World} {K : PySem.W.Frag} {mg : Str → Option Value} {base : Heap} {x qual : Str} {params : Arguments} {body : List Stmt} {scope : Scope} {dvs : List V} {kws : List (Str × V)} {f : Addr} {fd : FuncData} {N ps : List Str} {k : Nat}
abbrev cxD (P : Program) (w : World) (K : PySem.W.Frag) (mg : Str → Option Value) (base : Heap) (N : List Str) (qual : Str) (scope : Scope) (f : Addr) (cdv : Value) (A : Around) (outer : List PySem.Env) (s : Shared) (H : Hp) (E : XK) : Cx :=
  cxOf (L2.CX P w) P w K mg base N qual scope f cdv A outer s H E
abbrev Body (P : Program) (w : World) (K : PySem.W.Frag) (mg : Str → Option Value) (base : Heap) (N : List Str) (qual : Str) (scope : Scope) (rf : List Nat) (body : List Stmt) (k : Nat) (b : MS) : Prop :=
  ∀ (f : Addr) (cdv : Value) (A : Around) (outer : List PySem.Env) (s : Shared) (H : Hp) (E : XK), Cok (cxD P w K mg base N qual scope f cdv A outer s H E) E k → LSs (cxD P w K mg base N qual scope f cdv A outer s H E) E rf body b
theorem okDP (F : FunD K x qual params body scope dvs kws f fd) (S : FnScope N ps scope) (b : MS) (hb : Body P w K mg base N qual scope [] body k b) : FnG P w K mg base (k + 1) f fd ps (spP K mg (runP N.length ps.length b)) := by
  obtain ⟨oc, od, dV, kV, doc, pm, an, cdv, ct, osl, rfl, lk, hcd, _, _⟩ := F.ex
  refine fnG_of lk hcd S (fun vs H Q E h => ?_) fun A outer s H vs Q E hr hg h => ?_
  · obtain ⟨ds, r, tb, h⟩ := h
    by_cases hl : ds.length = ps.length
    · rw [r.length]; exact hl
    · unfold runP at h
      rw [if_neg hl] at h
      exact h.elim
  · obtain ⟨ds, r, tb, h⟩ := h
    have hl : ds.length = ps.length := by
      by_cases hl : ds.length = ps.length
      · exact hl
      · unfold runP at h
        rw [if_neg hl] at h
        exact h.elim
    unfold runP at h
    rw [if_pos hl] at h
    refine ⟨_, (hb f cdv A outer s H E (cok_of hr hg S.nd)).run H [] rfl, startE N.length (ds.map MV.dat), sr_start r tb, ?_⟩
    have sm : ∀ {σ' : L2.St} {H' : Hp} {ρ' : En}, SR K mg H [] σ' H' ρ' → Sm H H' := fun q => ⟨fun b o e => q.fr b o e (by simp), q.tb⟩
    cases eb : b (startE N.length (ds.map MV.dat)) with
    | ok fl =>
      rw [eb] at h
      cases fl with
      | nx ρ => exact fun σ' H' r' x' => h .non H' (sm r') .non
      | rt d ρ => exact fun v σ' H' r' x' rd => h v H' (sm r') rd
      | bk ρ => exact h.elim
      | ct ρ => exact h.elim
    | exn c fs =>
      rw [eb] at h
      exact fun cls dd H' ex fr => h cls dd H' ex ⟨fun b o e => fr.kp b o e (by simp), fr.tb⟩
    | stuck => rw [eb] at h; exact h.elim
theorem okDB (F : FunD K x qual params body scope dvs kws f fd) (S : FnScope N ps scope) (b : MS) (hb : Body P w K mg base N qual scope [0] body k b) : FnG P w K mg base (k + 1) f fd ps (spB K mg (runB N.length ps.length b)) := by
  obtain ⟨oc, od, dV, kV, doc, pm, an, cdv, ct, osl, rfl, lk, hcd, _, _⟩ := F.ex
  refine fnG_of lk hcd S (fun vs H Q E h => ?_) fun A outer s H vs Q E hr hg h => ?_
  · obtain ⟨a, xs, vr, bs, ds, rfl, ha, rb, r, tb, h⟩ := h
    by_cases hl : ds.length + 1 = ps.length
    · rw [List.length_cons, r.length]; exact hl
    · unfold runB at h
      rw [if_neg hl] at h
      exact h.elim
  · obtain ⟨a, xs, vr, bs, ds, rfl, ha, rb, r, tb, h⟩ := h
    have hl : ds.length + 1 = ps.length := by
      by_cases hl : ds.length + 1 = ps.length
      · exact hl
      · unfold runB at h
        rw [if_neg hl] at h
        exact h.elim
    unfold runB at h
    rw [if_pos hl] at h
    refine ⟨_, (hb f cdv A outer s H E (cok_of hr hg S.nd)).run H [(0, a)] rfl, startE N.length (MV.own bs :: ds.map MV.dat), sr_startB ha rb r tb, ?_⟩
    have sm : ∀ {σ' : L2.St} {H' : Hp} {ρ' : En}, SR K mg H [(0, a)] σ' H' ρ' → SmB a H H' := fun q => ⟨fun b o n e => q.fr b o e (by simpa using n), q.tb⟩
    have out : ∀ {σ' : L2.St} {H' : Hp} {ρ' : En} {bs' : List D}, SR K mg H [(0, a)] σ' H' ρ' → slotO ρ' 0 = some bs' → ∃ ys, H' a = some (.lst ys) ∧ RDs K mg H' ys bs' := fun {σ' H' ρ' bs'} q e => by
      obtain ⟨a', ys, h1, h2, h3, _⟩ := q.own 0 bs' (slotO_eq e)
      have := q.ref (0, a) (by simp)
      rw [h1] at this
      cases this
      exact ⟨ys, h2, h3⟩
    cases eb : b (startE N.length (MV.own bs :: ds.map MV.dat)) with
    | ok fl =>
      rw [eb] at h
      cases fl with
      | nx ρ =>
        simp only at h
        cases eo : slotO ρ 0 with
        | none => rw [eo] at h; exact h.elim
        | some bs' =>
          rw [eo] at h
          intro σ' H' r' x'
          obtain ⟨ys, h2, h3⟩ := out r' eo
          exact h .non H' ys (sm r') h2 h3 .non
      | rt d ρ =>
        simp only at h
        cases eo : slotO ρ 0 with
        | none => rw [eo] at h; exact h.elim
        | some bs' =>
          rw [eo] at h
          intro v σ' H' r' x' rd
          obtain ⟨ys, h2, h3⟩ := out r' eo
          exact h v H' ys (sm r') h2 h3 rd
      | bk ρ => exact h.elim
      | ct ρ => exact h.elim
    | exn c fs => rw [eb] at h; exact h.elim
    | stuck => rw [eb] at h; exact h.elim
def CodT (base : Heap) (mg : Str → Option Value) (fd : FuncData) : Prop := ∀ c, fd.code = .ref c → ∃ P, GxR.TabB base mg c P ∧ Tabs.T P
abbrev BodyT (P : Program) (w : World) (K : PySem.W.Frag) (mg : Str → Option Value) (base : Heap) (N : List Str) (qual : Str) (scope : Scope) (rf : List Nat) (body : List Stmt) (k : Nat) (b : MS) : Prop :=
  ∀ (f : Addr) (cdv : Value) (A : Around) (outer : List PySem.Env) (s : Shared) (H : Hp) (E : XK), (∃ c P, cdv = .ref c ∧ GxR.TabB base mg c P ∧ Tabs.T P) → Cok (cxD P w K mg base N qual scope f cdv A outer s H E) E k → LSs (cxD P w K mg base N qual scope f cdv A outer s H E) E rf body b
theorem okDPt (F : FunD K x qual params body scope dvs kws f fd) (S : FnScope N ps scope) (b : MS) (hT : CodT base mg fd) (hb : BodyT P w K mg base N qual scope [] body k b) : FnG P w K mg base (k + 1) f fd ps (spP K mg (runP N.length ps.length b)) := by
  obtain ⟨oc, od, dV, kV, doc, pm, an, cdv, ct, osl, rfl, lk, hcd, _, _⟩ := F.ex
  obtain ⟨cc, hcc⟩ := He.codeIn_ref hcd
  have hcT : ∃ c P, cdv = .ref c ∧ GxR.TabB base mg c P ∧ Tabs.T P := by
    obtain ⟨P, h1, h2⟩ := hT cc hcc
    exact ⟨cc, P, hcc, h1, h2⟩
  refine fnG_of lk hcd S (fun vs H Q E h => ?_) fun A outer s H vs Q E hr hg h => ?_
  · obtain ⟨ds, r, tb, h⟩ := h
    by_cases hl : ds.length = ps.length
    · rw [r.length]; exact hl
    · unfold runP at h
      rw [if_neg hl] at h
      exact h.elim
  · obtain ⟨ds, r, tb, h⟩ := h
    have hl : ds.length = ps.length := by
      by_cases hl : ds.length = ps.length
      · exact hl
      · unfold runP at h
        rw [if_neg hl] at h
        exact h.elim
    unfold runP at h
    rw [if_pos hl] at h
    refine ⟨_, (hb f cdv A outer s H E hcT (cok_of hr hg S.nd)).run H [] rfl, startE N.length (ds.map MV.dat), sr_start r tb, ?_⟩
    have sm : ∀ {σ' : L2.St} {H' : Hp} {ρ' : En}, SR K mg H [] σ' H' ρ' → Sm H H' := fun q => ⟨fun b o e => q.fr b o e (by simp), q.tb⟩
    cases eb : b (startE N.length (ds.map MV.dat)) with
    | ok fl =>
      rw [eb] at h
      cases fl with
      | nx ρ => exact fun σ' H' r' x' => h .non H' (sm r') .non
      | rt d ρ => exact fun v σ' H' r' x' rd => h v H' (sm r') rd
      | bk ρ => exact h.elim
      | ct ρ => exact h.elim
    | exn c fs =>
      rw [eb] at h
      exact fun cls dd H' ex fr => h cls dd H' ex ⟨fun b o e => fr.kp b o e (by simp), fr.tb⟩
    | stuck => rw [eb] at h; exact h.elim
end
theorem fnN_of {P : Program} {w : World} {K : PySem.W.Frag} {mg : Str → Option Value} {base : Heap} {k : Nat} {x : Str} {ps : List Str} {sp : Sp} {f : Addr} {fd : FuncData} (hm : mg x = some (Value.ref f)) (hk : PySem.W.keepIn K (.ref f) = true) (hb : Binds K fd ps []) (G : FnG P w K mg base k f fd ps sp) : FnN P w K mg base k x ps sp :=
  ⟨f, fd, hm, hk, hb, G⟩

def OnlyT (cs : List (Addr × Addr)) (H : Hp) : Prop := (∀ p ∈ cs, H p.2 = some (.tbl #[])) ∧ ∀ b, H b = none ∨ b ∈ cs.map (·.2) ∨ ∃ o xs, H b = some (.frz o (.lst xs))
omit [Tabs] in
theorem rd_scriptT {K : PySem.W.Frag} {mg : Str → Option Value} {H : Hp} {a : Addr} {ns : List Int} {cs : List (Addr × Addr)} (h : SqL K H a (ns.map V.int)) (ho : OnlyT cs H) : RD K mg H (.ref a) (.klst (ns.map D.int)) := by
  refine .klst ?_ (RDs.ints ns)
  rcases h with (h | ⟨o, h⟩) | h
  · rcases ho.2 a with z | z | ⟨o, xs, z⟩
    · rw [h] at z; cases z
    · obtain ⟨p, hp, e⟩ := List.mem_map.mp z
      have := ho.1 p hp
      rw [e, h] at this
      cases this
    · rw [h] at z; cases z
  · exact .inl ⟨o, h⟩
  · exact .inr h
omit [Tabs] in
theorem lawGT {P : Program} {w : World} {K : PySem.W.Frag} {mg mb : Str → Option Value} {k : Nat} {fa a : Addr} {cs : List (Addr × Addr)} {fd : FuncData} {x : Str} {sp : Sp} {s1 : Shared} {vs : List Value} {ns : List Int}
    (KX : K.In s1.heap) (hns : s1.heap.Ns mainGlobals mg) (hb : s1.heap.Ns builtinsNs mb) (hbb : ∀ x : Str, x ≠ "__name__" → mb x = bootBuiltins x) (hlim : s1.heap.NoLimit) (hg : s1.gens = #[])
    (hT : ∀ p ∈ cs, s1.heap.get? p.2 = some { cls := .none, data := .fields #[] }) (nT : ∀ p ∈ cs, K.lookup p.2 = none) (C : ∀ p ∈ cs, PySem.W.CodeHd s1.heap p.1 p.2)
    (hbm : ∃ (bm : Addr) (ob : Obj), mg "__builtins__" = some (.ref bm) ∧ bm ≠ builtinsNs ∧ s1.heap.get? bm = some ob ∧ ob.cls = .type "module" ∧ ob.dict = some builtinsNs ∧ ob.data = .plain)
    (ha : s1.heap.get? a = some { cls := .type "list", data := .seq vs.toArray }) (hi : IntsAre vs ns) (hl : ns.length ≤ sizeLine) (hr : Room k callerA)
    (F : ∀ base : Heap, K.In base → base.Ns mainGlobals mg → (∀ p ∈ cs, GxR.TabB base mg p.1 p.2) → FnG P w K mg base k fa fd [x] sp) (hbind : ∀ (s : Shared) (u : Value), BindsTo s fd ⟨[u], []⟩ [(x, u)])
    (hsp : ∀ H : Hp, OnlyT cs H → SqL K H a (ns.map V.int) → sp [.ref a] H (fun v _ => v = .bl true) fun _ _ _ => False) :
    codeAny (model P w) callerA (.call (.ref fa) ⟨[.ref a], []⟩) (fun r s' => r = .ok (.ret (.bool true)) ∧ OldK s1.heap s'.heap ∧ s'.os = s1.os ∧ AllBare s'.gens) s1 := by
  have rv := vals_ints hi
  have lenV := hi.length
  have isT : ∀ b : Addr, b ∈ cs.map (·.2) → s1.heap.get? b = some { cls := .none, data := .fields #[] } := fun b hb => by
    obtain ⟨p, hp, e⟩ := List.mem_map.mp hb
    rw [← e]
    exact hT p hp
  have aT : a ∉ cs.map (·.2) := fun z => by
    have q := isT a z
    rw [ha] at q
    have z' : Data.seq vs.toArray _ = Data.fields #[] := congrArg Obj.data (Option.some.inj q)
    cases z'
  have memT : ∀ p ∈ cs, p.2 ∈ cs.map (·.2) := fun p hp => List.mem_map.mpr ⟨p, hp, rfl⟩
  -- from an abstract heap in which nothing but the script and the tables may be tracked
  have core : ∀ H : Hp, (∀ p ∈ cs, H p.2 = some (.tbl #[])) → (∀ b, H b = none ∨ b ∈ cs.map (·.2) ∨ ∃ o xs, H b = some (.frz o (.lst xs))) → SqL K H a (ns.map V.int) → HOk P w H s1.heap → (∀ b, H b ≠ none → b = a ∨ b ∈ cs.map (·.2)) → (H a ≠ none → K.lookup a = none) →
      codeAny (model P w) callerA (.call (.ref fa) ⟨[.ref a], []⟩) (fun r s' => r = .ok (.ret (.bool true)) ∧ OldK s1.heap s'.heap ∧ s'.os = s1.os ∧ AllBare s'.gens) s1 := by
    intro H hH hO hS hok hA hK
    have base_of : ∀ {b : Addr} {o : Obj}, s1.heap.get? b = some o → H b = none → (hidT s1.heap H).get? b = some o := fun e n => hidT_get e n
    have noD : ∀ {b : Addr} {o : Obj}, s1.heap.get? b = some o → (∀ vs n, o.data ≠ .seq vs n) → o.data ≠ .fields #[] → H b = none := fun {b o} e h1 h2 => by
      cases q : H b with
      | none => rfl
      | some u =>
        rcases hA b (by rw [q]; simp) with e' | e'
        · rw [e', ha] at e
          cases e
          exact (h1 _ _ rfl).elim
        · rw [isT b e'] at e
          cases e
          exact (h2 rfl).elim
    have noA : ∀ {b : Addr} {o : Obj} {es : Array DictEntry} {ep : Nat}, s1.heap.get? b = some o → o.data = .dict es ep → H b = none := fun {b o es ep} e d => by
      refine noD e (fun vs n z => ?_) fun z => ?_
      · rw [d] at z
        cases z
      · rw [d] at z
        cases z
    have nsK : ∀ {b : Addr} {m : Str → Option Value}, s1.heap.Ns b m → (hidT s1.heap H).Ns b m := fun {b m} ⟨o, es, ep, e, d, r⟩ => ⟨o, es, ep, base_of e (noA e d), d, r⟩
    have hKb : K.In (hidT s1.heap H) := fun b o e => base_of (KX b o e) (by
      cases q : H b with
      | none => rfl
      | some u =>
        rcases hA b (by rw [q]; simp) with e' | e'
        · rw [e'] at e q
          rw [hK (by rw [q]; simp)] at e
          cases e
        · obtain ⟨p, hp, ep⟩ := List.mem_map.mp e'
          rw [← ep, nT p hp] at e
          cases e)
    have hM : L2.Mod K mg (hidT s1.heap H) := ⟨hKb, nsK hns, ⟨mb, nsK hb, hbb⟩, let ⟨mc, h1, h2⟩ := hlim; ⟨mc, nsK h1, h2⟩⟩
    have TB : ∀ p ∈ cs, GxR.TabB (hidT s1.heap H) mg p.1 p.2 := fun p hp => by
      have hTp := hT p hp
      refine ⟨?_, ?_, fun z => ?_⟩
      · obtain ⟨o, us, file, tf, flags, tg, inF, text, tt, e1, r1, r2, r3, r4, r5, r6, r7, r8, hne⟩ := C p hp
        refine ⟨o, us, file, tf, flags, tg, inF, text, tt, base_of e1 (noD e1 (fun vs n z => ?_) fun z => ?_), r1, r2, r3, r4, r5, r6, r7, r8, hne⟩
        · rw [r2] at z
          cases z
        · rw [r2] at z
          cases z
          simp at r3
      · obtain ⟨bm, ob, b1, b2, b3, b4, b5, b6⟩ := hbm
        have nG : bm ≠ mainGlobals := fun q => by
          obtain ⟨o, es, ep, e, hd, _⟩ := hns
          rw [q, e] at b3
          cases b3
          rw [hd] at b6
          cases b6
        have nP : bm ≠ p.2 := fun q => by
          rw [q, hTp] at b3
          cases b3
          cases b6
        refine ⟨bm, ob, b1, b2, nG, nP, base_of b3 (noD b3 (fun vs n z => ?_) fun z => ?_), b4, b5, b6⟩
        · rw [b6] at z
          cases z
        · rw [b6] at z
          cases z
      · obtain ⟨o, es, ep, e, hd, _⟩ := hns
        rw [z, hTp] at e
        cases e
        cases hd
    have e0 : Env0 P w K mg (hidT s1.heap H) callerA [] s1 H := ⟨rfl, hM, fun b o e => of_hidT e, Nat.le_of_eq (hidT_size _ _), trivial, fun b hb => absurd (show b ∈ ([] : List Addr) from hb) (by simp), hok, .of_eq hg⟩
    refine codeAny_mono ((F _ hKb (nsK hns) TB).run callerA [] s1 H ⟨[.ref a], []⟩ [.ref a] [.ref a] _ _ hr rfl e0 (hbind s1 (.ref a)) (.cons rfl .nil) (hsp H ⟨hH, hO⟩ hS)) fun r s' h => ?_
    cases r with
    | error e =>
      obtain ⟨_, _, _, _, _, _, _, _, _, _, _, _, z⟩ := h
      exact z.elim
    | ok fl =>
      cases fl with
      | next => exact False.elim h
      | brk => exact False.elim h
      | cont => exact False.elim h
      | ret u =>
        obtain ⟨v, H', os, bare, un, hok', r', q⟩ := h
        have q' : v = .bl true := q
        subst q'
        obtain rfl : u = Value.bool true := r'
        have key : ∀ b o, b ∉ cs.map (·.2) → s1.heap.get? b = some o → s'.heap.get? b = some o := fun b o nb e => by
          cases q : H b with
          | none => exact un.keep b o e q (by intro z; exact absurd (show b ∈ ([] : List Addr) from z) (by simp)) (by simp)
          | some u =>
            rcases hO b with z | z | ⟨ob, xs, z⟩
            · rw [q] at z; cases z
            · exact absurd z nb
            · have z2 := un.frzs b ob _ z
              obtain ⟨e1, _⟩ := hok b _ z
              obtain ⟨e2, _⟩ := hok' b _ z2
              rw [e] at e1; cases e1
              exact e2
        have grown : ∀ p ∈ cs, ∃ more : Array Value, s'.heap.get? p.2 = some { cls := .none, data := .fields more } := fun p hp => by
          obtain ⟨more, z⟩ := un.tbls p.2 #[] (hH p hp)
          exact ⟨_, hok' p.2 _ z⟩
        refine ⟨rfl, ⟨fun b o e => ?_, fun b o e => ?_⟩, os, bare⟩
        · by_cases hb : b ∈ cs.map (·.2)
          · obtain ⟨p, hp, ep⟩ := List.mem_map.mp hb
            obtain ⟨more, hm⟩ := grown p hp
            rw [← ep] at e ⊢
            rw [hT p hp] at e
            cases e
            exact .inr (.inl ⟨((C p hp).tab (hT p hp)).isCodeTable, rfl, #[], more, rfl, by rw [Array.empty_append]; exact hm⟩)
          · exact .inl (key b o hb e)
        · by_cases hb : b ∈ cs.map (·.2)
          · obtain ⟨p, hp, ep⟩ := List.mem_map.mp hb
            obtain ⟨more, hm⟩ := grown p hp
            rw [← ep]
            exact ⟨_, hm⟩
          · exact ⟨o, key b o hb e⟩
  cases hk : K.lookup a with
  | some o =>
    have e := KX a o hk
    rw [ha] at e
    cases e
    refine core (fun b => if b ∈ cs.map (·.2) then some (.tbl #[]) else none) (fun p hp => if_pos (memT p hp)) (fun b => ?_) (.inr ⟨_, vs.toArray, _, hk, rfl, rfl, rfl, by rw [List.size_toArray, lenV]; exact hl, by simpa using rv⟩) (fun b u z => ?_) (fun b z => ?_) fun z => absurd (show (if a ∈ cs.map (·.2) then some (HO.tbl #[]) else none) = none from if_neg aT) z
    · by_cases hb : b ∈ cs.map (·.2)
      · exact .inr (.inl hb)
      · exact .inl (if_neg hb)
    · by_cases hb : b ∈ cs.map (·.2)
      · have z' := (if_pos hb).symm.trans z
        cases z'
        exact isT b hb
      · have z' := (if_neg hb).symm.trans z
        cases z'
    · by_cases hb : b ∈ cs.map (·.2)
      · exact .inr hb
      · exact absurd (if_neg hb) z
  | none =>
    refine core (fun b => if b = a then some (.frz { cls := .type "list", data := .seq vs.toArray } (.lst (ns.map V.int))) else if b ∈ cs.map (·.2) then some (.tbl #[]) else none) (fun p hp => (if_neg (show ¬ p.2 = a from fun z => aT (by rw [← z]; exact memT p hp))).trans (if_pos (memT p hp))) (fun b => ?_)
      (.inl (.inr ⟨{ cls := .type "list", data := .seq vs.toArray }, if_pos rfl⟩)) (fun b u z => ?_) (fun b z => ?_) fun _ => hk
    · by_cases hb : b = a
      · exact .inr (.inr ⟨_, _, if_pos hb⟩)
      · by_cases hb2 : b ∈ cs.map (·.2)
        · exact .inr (.inl hb2)
        · exact .inl ((if_neg hb).trans (if_neg hb2))
    · by_cases hb : b = a
      · have z' := (if_pos hb).symm.trans z
        cases z'
        rw [hb]
        exact ⟨ha, by rw [List.length_map]; exact hl, vs, _, rv, ha⟩
      · have z1 := (if_neg hb).symm.trans z
        by_cases hb2 : b ∈ cs.map (·.2)
        · have z' := (if_pos hb2).symm.trans z1
          cases z'
          exact isT b hb2
        · have z' := (if_neg hb2).symm.trans z1
          cases z'
    · by_cases hb : b = a
      · exact .inl hb
      · by_cases hb2 : b ∈ cs.map (·.2)
        · exact .inr hb2
        · exact absurd ((if_neg hb).trans (if_neg hb2)) z
omit [Tabs] in
theorem walkGT {l : PySem.W.OpenLaw} {n k : Nat} {q : Program} {loose : List Str} {XP : (Str → Option Value) → Heap → Prop} {YP : World → Heap → Prop} {d : DefRec} {x : Str} (hn : l.most = some n) (hn2 : n ≤ sizeLine) (hdf : d.params.defaults = []) (hr : Room k callerA)
    (F : ∀ (w : World) (mg : Str → Option Value) (fa : Addr) (h : Heap), YP w h → h.Ns mainGlobals mg → mg d.name = some (.ref fa) →
      ∃ (K : PySem.W.Frag) (fd : FuncData) (cs : List (Addr × Addr)) (sp : Sp), K.In h ∧ (∀ p ∈ cs, h.get? p.2 = some { cls := .none, data := .fields #[] }) ∧ (∀ p ∈ cs, K.lookup p.2 = none) ∧ (∀ p ∈ cs, PySem.W.CodeHd h p.1 p.2) ∧ (∀ (s : Shared) (u : Value), BindsTo s fd ⟨[u], []⟩ [(x, u)]) ∧
        (∀ (H : Hp) (a : Addr) (ns : List Int), ns.length ≤ n → (∀ z ∈ ns, Builtin.Int.intBits z ≤ 1048576) → OnlyT cs H → SqL K H a (ns.map V.int) → sp [.ref a] H (fun v _ => v = .bl true) fun _ _ _ => False) ∧
        ∀ base : Heap, K.In base → base.Ns mainGlobals mg → (∀ p ∈ cs, GxR.TabB base mg p.1 p.2) → FnG l.prog w K mg base k fa fd [x] sp) :
    PySem.W.WalkO q loose XP YP l.row.toRowW d [] (fun f vs => PySem.call f vs) := by
  refine Att.attach_callB hn hdf fun w s0 s1 mg mb fa o pm cd doc a vs ns G Y ho hd hcd hmg hobj hints hlen hbits hg => ?_
  obtain ⟨K, fd, cs, sp, kin, hT, nT, C, hb, hsp, hF⟩ := F w mg fa _ Y G.T.g hmg
  exact lawGT kin G.T.g G.T.b G.T.builtins G.T.nolimit hg hT nT C G.T.bmain hobj hints (Nat.le_trans hlen hn2) hr hF hb fun H only sq => hsp H a ns hlen hbits only sq
theorem sp_lawT {K : PySem.W.Frag} {mg : Str → Option Value} {F : List D → Res D} {ns : List Int} {cs : List (Addr × Addr)} (h : F [.klst (ns.map D.int)] = .ok (.bl true)) {H : Hp} {a : Addr} (only : OnlyT cs H) (hT : ∀ P, Tabs.T P → P ∈ cs.map (·.2)) (sq : SqL K H a (ns.map V.int)) :
    spP K mg F [.ref a] H (fun v _ => v = .bl true) fun _ _ _ => False := by
  refine ⟨[.klst (ns.map D.int)], .cons (rd_scriptT sq only) .nil, fun P hP => ?_, ?_⟩
  · obtain ⟨p, hp, e⟩ := List.mem_map.mp (hT P hP)
    exact ⟨#[], by rw [← e]; exact only.1 p hp, trivial⟩
  · rw [h]
    intro v H' _ rd
    cases rd
    rfl
end ML


namespace ML
open PySem PySem.Spec PyProof.Rows L2
variable [Tabs]
section
variable {X : Cx} {EW : XK} {rf : List Nat}
def ixD (a k : D) : Res D := match a, k with
  | .lst ds, .int k => atD ds k
  | .tup ds, .int k => atD ds k
  | .klst ds, .int k => atD ds k
  | .str z, .int k => if z.length ≤ sizeLine then (match L2.atI z.cps.toList k with
    | some c => .ok (.str ⟨#[c]⟩)
    | none => .stuck) else .stuck
  | _, _ => .stuck
theorem nx_ix (a k : D) (c : Str) (fs : List (Str × D)) : ixD a k ≠ .exn c fs := by
  have h : ∀ (ds : List D) (k : Int), atD ds k ≠ .exn c fs := fun ds k => by unfold atD; split <;> simp
  unfold ixD
  split
  · exact h _ _
  · exact h _ _
  · exact h _ _
  · split
    · split <;> simp
    · simp
  · simp
theorem atD_ok {ds : List D} {k : Int} {d : D} (h : atD ds k = .ok d) : L2.atI ds k = some d := by
  unfold atD at h
  split at h
  · cases h; assumption
  · cases h
def rIxA (K : PySem.W.Frag) : R2 := fun x y H Q => rIxL K x y H Q ∨ rIxT K x y H Q ∨ rIxS x y H Q
theorem ix_any : IxR X (rIxA X.K) := IxR.or ix_list (IxR.or ix_tup ix_str)
theorem ix_end {x y : V} {dx dy d : D} {H : Hp} {Q : VK} (hx : RD X.K X.mg H x dx) (hy : RD X.K X.mg H y dy) (h : ixD dx dy = .ok d) (q : ∀ v H', Same H H' → RD X.K X.mg H' v d → Q v H') : rIxA X.K x y H Q := by
  unfold ixD at h
  split at h
  · cases hy
    cases hx with
    | lst h1 r =>
      obtain ⟨v, h2, h3⟩ := r.atI (atD_ok h)
      exact .inl ⟨_, _, _, _, rfl, rfl, h1.seq, h2, q v H (Same.refl H) h3⟩
  · cases hy
    cases hx with
    | tup h1 r =>
      obtain ⟨v, h2, h3⟩ := r.atI (atD_ok h)
      exact .inr (.inl ⟨_, _, _, _, rfl, rfl, h1.seq, h2, q v H (Same.refl H) h3⟩)
  · cases hy
    cases hx with
    | klst h1 r =>
      obtain ⟨v, h2, h3⟩ := r.atI (atD_ok h)
      exact .inl ⟨_, _, _, _, rfl, rfl, h1.seq, h2, q v H (Same.refl H) h3⟩
  · cases hy
    cases hx
    split at h
    · rename_i hz
      split at h
      · rename_i c hc
        cases h
        exact .inr (.inr ⟨_, _, _, rfl, rfl, hz, hc, q _ H (Same.refl H) (.str _)⟩)
      · cases h
    · cases h
  · cases h
theorem le_ix {a b : Expr} {ma mb : ME} {pos : Pos} (ha : LE X EW rf a ma) (hb : LE X EW rf b mb) (hs : PlainIx b) : LE X EW rf (.Subscript a b pos) (e2 ixD ma mb) := by
  refine ⟨fun H0 A hA => (pe_ix ix_any (ha.run H0 A hA) (hb.run H0 A hA) hs).imp fun σ H Q q => ?_⟩
  refine (two (α := Unit) nx_ix q).mono fun x H1 q => q.mono fun y H2 ⟨dx, dy, d, hx, hy, hd, q⟩ => ix_end hx hy hd q
abbrev MO := En → Res (Option Int × En)
def RO : Option Int → Option Int → Hp → Prop := fun a b _ => a = b
structure LP (X : Cx) (EW : XK) (rf : List Nat) (e : Option Expr) (m : MO) : Prop where
  run : ∀ H0 A, A.map (·.1) = rf → PO X e (rM X EW H0 A RO m)
def pNo : MO := fun ρ => .ok (none, ρ)
def pSo (m : ME) : MO := mLast m fun d => match d with
  | .int i => .ok (some i)
  | _ => .stuck
theorem PO.imp {e : Option Expr} {t t' : TO} (h : PO X e t) (hi : ∀ σ H Q, t' σ H Q → t σ H Q) : PO X e t' := ⟨fun pins s σ H Q I q => h.run pins s σ H Q I (hi σ H Q q)⟩
theorem lp_none : LP X EW rf none pNo := ⟨fun H0 A hA => PO.imp po_none fun σ H Q q => rM.pure (R := RO) (d := none) q (Same.refl H) rfl⟩
theorem lp_some {e : Expr} {m : ME} (h : LE X EW rf e m) : LP X EW rf (some e) (pSo m) := by
  refine ⟨fun H0 A hA => PO.imp (po_some (h.run H0 A hA)) fun σ H Q q => ?_⟩
  refine (rM.last (R := RE X) q fun a c fs => by split <;> simp).mono fun v H1 ⟨d, b, r, hb, q⟩ => ?_
  split at hb
  · cases hb
    exact ⟨_, RE.int r, q _ H1 (Same.refl H1) rfl⟩
  · cases hb
def cutD (ds : List D) (lo hi : Option Int) : List D := (ds.drop (HT.sIx ds.length 0 lo)).take (HT.sIx ds.length ds.length hi - HT.sIx ds.length 0 lo)
theorem RDs.cut {K : PySem.W.Frag} {mg : Str → Option Value} {H : Hp} {xs : List V} {ds : List D} (r : RDs K mg H xs ds) (lo hi : Option Int) : RDs K mg H (cutV xs lo hi) (cutD ds lo hi) := by
  unfold cutV cutD
  rw [r.length]
  exact (r.drop _).take _
def slD (d : D) (lo hi : Option Int) : Res D := match d with
  | .tup ds => .ok (.tup (cutD ds lo hi))
  | .lst ds => .ok (.lst (cutD ds lo hi))
  | _ => .stuck
def eSl (m : ME) (ml mh : MO) : ME := mThen m fun d => mThen ml fun lo => mLast mh fun hi => slD d lo hi
theorem SlR.frz {r : V → Option Int → Option Int → Hp → VK → Prop} (h : SlR X r) : SlR X (fun x lo hi H Q => r x lo hi H fun v H1 => Q v H1 ∨ ∃ a xs, v = .ref a ∧ H1 a = some (.lst xs) ∧ ∀ o, Q v (upd H1 a (.frz o (.lst xs)))) := by
  intro pins s σ H x v vl vu lo hi sl Q I rx hs pl pu q
  obtain ⟨T, id, h1, h2, h3⟩ := h pins s σ H x v vl vu lo hi sl _ I rx hs pl pu q
  refine ⟨T, id, h1, h2, thn h3 fun u s1 ⟨v, H1, I1, r, q1⟩ => ?_⟩
  rcases q1 with q1 | ⟨a, xs, rfl, ha, q1⟩
  · exact ⟨v, H1, I1, r, q1⟩
  · obtain ⟨o, I2⟩ := Inv.freeze I1 ha
    exact ⟨_, _, I2, r, q1 o⟩
theorem cut_whole {ds : List D} {lo hi : Option Int} (h : HT.sIx ds.length 0 lo = 0 ∧ HT.sIx ds.length ds.length hi = ds.length) : cutD ds lo hi = ds := by
  unfold cutD
  rw [h.1, h.2]
  simp
def rSlZ (K : PySem.W.Frag) : V → Option Int → Option Int → Hp → VK → Prop := fun x lo hi H Q => ∃ a xs, x = .ref a ∧ SqT K H a xs ∧
  (HT.sIx xs.length 0 lo = 0 ∧ HT.sIx xs.length xs.length hi = xs.length → Q (.ref a) H) ∧ (¬ (HT.sIx xs.length 0 lo = 0 ∧ HT.sIx xs.length xs.length hi = xs.length) → ∀ p o, H p = none → o.dict = none → Q (.ref p) (upd H p (.frz o (.tup (cutV xs lo hi)))))
theorem sl_tupZ {X : Cx} : SlR X (rSlZ X.K) := by
  intro pins s σ H x v vl vu lo hi sl Q I rx hs pl pu ⟨a, xs, ex, hx, k1, k2⟩
  by_cases hw : HT.sIx xs.length 0 lo = 0 ∧ HT.sIx xs.length xs.length hi = xs.length
  · exact sl_tupA pins s σ H x v vl vu lo hi sl Q I rx hs pl pu ⟨a, xs, ex, hx, k1, fun n => absurd hw n⟩
  subst ex
  cases rx
  obtain ⟨its, r, ht, hz⟩ := I.tuple hx
  have ln : its.toArray.size = xs.length := by rw [List.size_toArray, r.length]
  refine ⟨"tuple", _, PyProof.Rows.slot_tuple_getitem.lookup, ht.typeIs, HT.getItem_tuple_cut ht hs pl pu (by rw [ln]; exact hw) ?_ (by rw [ln]; exact hz)⟩
  rw [ln]
  exact ⟨.ref s.heap.objs.size, _, nT (t' := s.toks) I (fun b u q => Heap.get?_push_of_some _ q) (Nat.le_trans (cutV_length xs lo hi) hz) ((r.drop (HT.sIx xs.length 0 lo)).take (HT.sIx xs.length xs.length hi - HT.sIx xs.length 0 lo)) (Heap.get?_push_size _ rfl), rfl, k2 hw _ _ (I.hok.fresh (Nat.le_refl _)) rfl⟩
theorem le_slice {e : Expr} {lo hi : Option Expr} {m : ME} {ml mh : MO} {p2 pos : Pos} (he : LE X EW rf e m) (hl : LP X EW rf lo ml) (hh : LP X EW rf hi mh) : LE X EW rf (.Subscript e (.Slice lo hi none p2) pos) (eSl m ml mh) := by
  refine ⟨fun H0 A hA => (pe_slice (SlR.or sl_tupZ (SlR.frz sl_list)) (he.run H0 A hA) (hl.run H0 A hA) (hh.run H0 A hA)).imp fun σ H Q q => ?_⟩
  refine (rM.then (R := RE X) q).mono fun x H1 ⟨d, rd, q⟩ => ?_
  obtain ⟨ρ1, r1, q⟩ := rM.then (R := RO) q
  refine ⟨ρ1, r1, ?_⟩
  cases el : ml ρ1 with
  | exn c fs => rw [el] at q; exact q
  | stuck => rw [el] at q; exact q
  | ok p =>
    obtain ⟨ol, ρ2⟩ := p
    rw [el] at q
    refine fun vl H2 r2 x2 evl => ?_
    obtain ⟨ol', evl', q⟩ := q vl H2 r2 x2 evl
    have e1 : vl = ol' := evl'
    subst e1
    obtain ⟨ρ3, r3, q⟩ := rM.last (R := RO) q (fun a c fs => by unfold slD; split <;> simp)
    refine ⟨ρ3, r3, ?_⟩
    cases eh : mh ρ3 with
    | exn c fs => rw [eh] at q; exact q
    | stuck => rw [eh] at q; exact q
    | ok p =>
      obtain ⟨oh, ρ4⟩ := p
      rw [eh] at q
      refine fun vh H3 r4 x4 evh => ?_
      obtain ⟨oh', b, evh', hb, q⟩ := q vh H3 r4 x4 evh
      have e2 : vh = oh' := evh'
      subst e2
      have rd3 : RD X.K X.mg H3 x d := RD.ext (x2.trans x4) rd
      unfold slD at hb
      split at hb
      · cases hb
        cases rd3 with
        | tup ht r =>
          refine .inl ⟨_, _, rfl, ht.seq, fun hw => ?_, fun hw p o hp hd => new_tuple hp hd (r.cut vl vh) q⟩
          rw [r.length] at hw
          rw [cut_whole hw] at q
          exact q _ H3 (Same.refl H3) (.tup ht r)
      · cases hb
        cases rd3 with
        | lst ht r => exact .inr ⟨_, _, rfl, ht.seq, fun p hp => new_frozen hp (r.cut vl vh) q⟩
      · cases hb
end
end ML


namespace ML
open PySem PySem.Spec PyProof.Rows L2
variable [Tabs]
@[simp] theorem Res.bind_ok {α β : Type} (a : α) (k : α → Res β) : (Res.ok a).bind k = k a := rfl
@[simp] theorem Res.bind_exn {α β : Type} (c : Str) (fs : List (Str × D)) (k : α → Res β) : (Res.exn c fs : Res α).bind k = .exn c fs := rfl
@[simp] theorem Res.bind_stuck {α β : Type} (k : α → Res β) : (Res.stuck : Res α).bind k = .stuck := rfl
def Res.keep {α : Type} : Res α → Res α
  | .ok a => .ok a
  | _ => .stuck
@[simp] theorem Res.keep_ok {α : Type} (a : α) : (Res.ok a).keep = .ok a := rfl
def getO : Option (Option MV) → Option (List D)
  | some (some (.own ds)) => some ds
  | _ => none
@[simp] theorem getO_own (ds : List D) : getO (some (some (.own ds))) = some ds := rfl
@[simp] theorem getO_dat (d : D) : getO (some (some (.dat d))) = none := rfl
def getS : Option (Option MV) → Option (List D)
  | some (some (.own ds)) => some ds
  | some (some (.dat (.lst ds))) => some ds
  | some (some (.dat (.tup ds))) => some ds
  | some (some (.dat (.klst ds))) => some ds
  | _ => none
@[simp] theorem getS_own (ds : List D) : getS (some (some (.own ds))) = some ds := rfl
@[simp] theorem getS_lst (ds : List D) : getS (some (some (.dat (.lst ds)))) = some ds := rfl
@[simp] theorem getS_tup (ds : List D) : getS (some (some (.dat (.tup ds)))) = some ds := rfl
@[simp] theorem getS_klst (ds : List D) : getS (some (some (.dat (.klst ds)))) = some ds := rfl
def getV (i : Nat) (ρ : En) : Option (Option MV) → Res (D × En)
  | some (some (.dat d)) => .ok (d, ρ)
  | some (some (.own ds)) => .ok (.lst ds, ρ.set i (some (.dat (.lst ds))))
  | _ => .stuck
@[simp] theorem getV_dat (i : Nat) (ρ : En) (d : D) : getV i ρ (some (some (.dat d))) = .ok (d, ρ) := rfl
@[simp] theorem getV_own (i : Nat) (ρ : En) (ds : List D) : getV i ρ (some (some (.own ds))) = .ok (.lst ds, ρ.set i (some (.dat (.lst ds)))) := rfl
def need {α β : Type} (o : Option α) (k : α → Res β) : Res β := match o with
  | some a => k a
  | none => .stuck
@[simp] theorem need_some {α β : Type} (a : α) (k : α → Res β) : need (some a) k = k a := rfl
@[simp] theorem need_none {α β : Type} (k : α → Res β) : need none k = .stuck := rfl
def Fl.seq (f : Fl) (b : MS) : Res Fl := match f with
  | .nx ρ => b ρ
  | f => .ok f
@[simp] theorem Fl.seq_nx (ρ : En) (b : MS) : (Fl.nx ρ).seq b = b ρ := rfl
@[simp] theorem Fl.seq_rt (d : D) (ρ : En) (b : MS) : (Fl.rt d ρ).seq b = .ok (.rt d ρ) := rfl
@[simp] theorem Fl.seq_bk (ρ : En) (b : MS) : (Fl.bk ρ).seq b = .ok (.bk ρ) := rfl
@[simp] theorem Fl.seq_ct (ρ : En) (b : MS) : (Fl.ct ρ).seq b = .ok (.ct ρ) := rfl
section
variable {α β : Type} (ρ : En)
@[simp] theorem mThen_ap (m : En → Res (α × En)) (k : α → En → Res (β × En)) : mThen m k ρ = (m ρ).bind fun p => k p.1 p.2 := by
  unfold mThen; cases m ρ <;> rfl
@[simp] theorem mLast_ap (m : En → Res (α × En)) (g : α → Res β) : mLast m g ρ = (m ρ).bind fun p => (g p.1).bind fun b => .ok (b, p.2) := by
  unfold mLast
  cases m ρ with
  | ok p =>
    show (match g p.1 with
      | .ok b => Res.ok (b, p.2)
      | .exn c fs => .exn c fs
      | .stuck => .stuck) = (g p.1).bind _
    cases g p.1 <;> rfl
  | exn c fs => rfl
  | stuck => rfl
@[simp] theorem sThen_ap (m : En → Res (α × En)) (k : α → MS) : sThen m k ρ = (m ρ).bind fun p => k p.1 p.2 := by
  unfold sThen; cases m ρ <;> rfl
@[simp] theorem eVar_ap (i : Nat) : eVar i ρ = getV i ρ ρ[i]? := rfl
@[simp] theorem eC_ap (d : D) : eC d ρ = .ok (d, ρ) := rfl
@[simp] theorem aNil_ap : aNil ρ = .ok ([], ρ) := rfl
@[simp] theorem aCons_ap (m : ME) (ms : MA) : aCons m ms ρ = (m ρ).bind fun p => (ms p.2).bind fun q => .ok (p.1 :: q.1, q.2) := by
  unfold aCons; simp only [mThen_ap]
@[simp] theorem e1_ap (g : D → Res D) (a : ME) : e1 g a ρ = (a ρ).bind fun p => (g p.1).bind fun b => .ok (b, p.2) := mLast_ap ρ a g
@[simp] theorem e2_ap (g : D → D → Res D) (a b : ME) : e2 g a b ρ = (a ρ).bind fun p => (b p.2).bind fun q => (g p.1 q.1).bind fun r => .ok (r, q.2) := by
  unfold e2; simp only [mThen_ap, mLast_ap]
@[simp] theorem eB_ap (g : List D → Res D) (ms : MA) : eB g ms ρ = (ms ρ).bind fun p => (g p.1).bind fun b => .ok (b, p.2) := mLast_ap ρ ms g
@[simp] theorem eTup_ap (ms : MA) : eTup ms ρ = (ms ρ).bind fun p => if p.1.length ≤ sizeLine then .ok (.tup p.1, p.2) else .stuck := by
  unfold eTup
  rw [mLast_ap]
  congr; funext p
  split <;> rfl
@[simp] theorem oE_ap (m : MA) : oE m ρ = (m ρ).bind fun p => .ok (.lst p.1, p.2) := mLast_ap ρ m _
@[simp] theorem oLst_ap (ms : MA) : oLst ms ρ = (ms ρ).bind fun p => if p.1.length ≤ sizeLine then .ok (p.1, p.2) else .stuck := by
  unfold oLst
  rw [mLast_ap]
  congr; funext p
  split <;> rfl
@[simp] theorem eCall_ap (F : List D → Res D) (ms : MA) : eCall F ms ρ = (ms ρ).bind fun p => (F p.1).bind fun b => .ok (b, p.2) := by
  unfold eCall
  cases ms ρ with
  | ok p =>
    show (match F p.1 with
      | .ok b => Res.ok (b, p.2)
      | .exn c fs => .exn c fs
      | .stuck => .stuck) = (F p.1).bind _
    cases F p.1 <;> rfl
  | exn c fs => rfl
  | stuck => rfl
@[simp] theorem slotO_ap (i : Nat) : slotO ρ i = getO ρ[i]? := rfl
@[simp] theorem slotS_ap (i : Nat) : slotS ρ i = getS ρ[i]? := rfl
@[simp] theorem callEnd_ap (F : List D → List D → Res (D × List D)) (i : Nat) (ds : List D) : ML.callEnd F i ds ρ = need (getO ρ[i]?) fun bs => (F bs ds).keep.bind fun p => .ok (p.1, ρ.set i (some (.own p.2))) := by
  unfold ML.callEnd
  rw [slotO_ap]
  cases getO ρ[i]? with
  | none => rfl
  | some bs =>
    show (match F bs ds with
      | .ok (d, bs') => Res.ok (d, ρ.set i (some (MV.own bs')))
      | _ => .stuck) = (F bs ds).keep.bind _
    cases F bs ds <;> rfl
@[simp] theorem eCallB_ap (F : List D → List D → Res (D × List D)) (i : Nat) (ms : MA) : eCallB F i ms ρ = need (getO ρ[i]?) fun _ => (ms ρ).bind fun p => ML.callEnd F i p.1 p.2 := by
  unfold eCallB
  rw [slotO_ap]
  cases getO ρ[i]? with
  | none => rfl
  | some bs => exact mThen_ap ρ ms _
@[simp] theorem bV_ap (m : ME) : bV m ρ = (m ρ).bind fun p => (asB p.1).bind fun b => .ok (b, p.2) := mLast_ap ρ m asB
@[simp] theorem asB_bl (b : Bool) : asB (.bl b) = .ok b := rfl
@[simp] theorem bYes_ap : bYes ρ = .ok (true, ρ) := rfl
@[simp] theorem bNot_ap (a : MB) : bNot a ρ = (a ρ).bind fun p => .ok (!p.1, p.2) := mLast_ap ρ a _
@[simp] theorem bAnd_ap (a b : MB) : bAnd a b ρ = (a ρ).bind fun p => if p.1 = true then b p.2 else .ok (false, p.2) := by
  unfold bAnd; rw [mThen_ap]; congr; funext p; split <;> rfl
@[simp] theorem bOr_ap (a b : MB) : bOr a b ρ = (a ρ).bind fun p => if p.1 = true then .ok (true, p.2) else b p.2 := by
  unfold bOr; rw [mThen_ap]; congr; funext p; split <;> rfl
@[simp] theorem vAnd_ap (a b : ME) : vAnd a b ρ = (bV a ρ).bind fun p => if p.1 = true then b p.2 else .ok (.bl false, p.2) := by
  unfold vAnd; rw [mThen_ap]; congr; funext p; split <;> rfl
@[simp] theorem vOr_ap (a b : ME) : vOr a b ρ = (bV a ρ).bind fun p => if p.1 = true then .ok (.bl true, p.2) else b p.2 := by
  unfold vOr; rw [mThen_ap]; congr; funext p; split <;> rfl
@[simp] theorem vNot_ap (a : ME) : vNot a ρ = (bV a ρ).bind fun p => .ok (.bl (!p.1), p.2) := mLast_ap ρ (bV a) _
@[simp] theorem eIf_ap (c : MB) (a b : ME) : eIf c a b ρ = (c ρ).bind fun p => if p.1 = true then a p.2 else b p.2 := by
  unfold eIf; rw [mThen_ap]; congr; funext p; split <;> rfl
@[simp] theorem ixEnd_ap (i : Nat) (k : Int) : ixEnd i (.int k) ρ = need (getS ρ[i]?) fun ds => (atD ds k).bind fun d => .ok (d, ρ) := by
  unfold ixEnd
  rw [slotS_ap]
  cases getS ρ[i]? with
  | none => rfl
  | some ds =>
    unfold atD
    show (match atI ds k with
      | some d => Res.ok (d, ρ)
      | none => .stuck) = _
    rw [need_some]
    cases L2.atI ds k <;> rfl
@[simp] theorem eIxV_ap (i : Nat) (m : ME) : eIxV i m ρ = need (getS ρ[i]?) fun _ => (m ρ).bind fun p => ixEnd i p.1 p.2 := by
  unfold eIxV mSlot
  rw [slotS_ap]
  cases getS ρ[i]? with
  | none => rfl
  | some bs => exact mThen_ap ρ m _
@[simp] theorem eLenV_ap (i : Nat) : eLenV i ρ = need (getS ρ[i]?) fun ds => .ok (.int (ds.length : Int), ρ) := by
  unfold eLenV
  rw [slotS_ap]
  cases getS ρ[i]? <;> rfl
@[simp] theorem isN_ap (neg : Bool) (m : ME) : isN neg m ρ = (m ρ).bind fun p => .ok (.bl (match p.1 with
  | .non => !neg
  | _ => neg), p.2) := mLast_ap ρ m _
@[simp] theorem pNo_ap : pNo ρ = .ok (none, ρ) := rfl
def asI : D → Res (Option Int)
  | .int i => .ok (some i)
  | _ => .stuck
@[simp] theorem asI_int (i : Int) : asI (.int i) = .ok (some i) := rfl
@[simp] theorem pSo_ap (m : ME) : pSo m ρ = (m ρ).bind fun p => (asI p.1).bind fun b => .ok (b, p.2) := by
  unfold pSo
  rw [mLast_ap]
  rfl
@[simp] theorem eSl_ap (m : ME) (ml mh : MO) : eSl m ml mh ρ = (m ρ).bind fun p => (ml p.2).bind fun l => (mh l.2).bind fun h => (slD p.1 l.1 h.1).bind fun b => .ok (b, h.2) := by
  unfold eSl; simp only [mThen_ap, mLast_ap]
@[simp] theorem sNil_ap : sNil ρ = .ok (.nx ρ) := rfl
@[simp] theorem sSeq_ap (a b : MS) : sSeq a b ρ = (a ρ).bind fun f => f.seq b := by
  unfold sSeq
  cases a ρ with
  | ok f => cases f <;> rfl
  | exn c fs => rfl
  | stuck => rfl
@[simp] theorem sExpr_ap (m : ME) : sExpr m ρ = (m ρ).bind fun p => .ok (.nx p.2) := sThen_ap ρ m _
@[simp] theorem sRet_ap (m : ME) : sRet m ρ = (m ρ).bind fun p => .ok (.rt p.1 p.2) := sThen_ap ρ m _
@[simp] theorem sRetN_ap : sRetN ρ = .ok (.rt .non ρ) := rfl
@[simp] theorem sBrk_ap : sBrk ρ = .ok (.bk ρ) := rfl
@[simp] theorem sCnt_ap : sCnt ρ = .ok (.ct ρ) := rfl
@[simp] theorem sIf_ap (c : MB) (a b : MS) : sIf c a b ρ = (c ρ).bind fun p => if p.1 = true then a p.2 else b p.2 := by
  unfold sIf; rw [sThen_ap]; congr; funext p; split <;> rfl
@[simp] theorem sSet_ap (i : Nat) (m : ME) : sSet i m ρ = (m ρ).bind fun p => .ok (.nx (p.2.set i (some (.dat p.1)))) := sThen_ap ρ m _
@[simp] theorem sOwn_ap (i : Nat) (m : MA) : sOwn i m ρ = (m ρ).bind fun p => .ok (.nx (p.2.set i (some (.own p.1)))) := sThen_ap ρ m _
@[simp] theorem sAsg_ap (m : ME) (g : MG) : sAsg m g ρ = (m ρ).bind fun p => (g p.1 p.2).keep.bind fun r => .ok (.nx r) := by
  unfold sAsg
  rw [sThen_ap]
  congr; funext p
  cases g p.1 p.2 <;> rfl
@[simp] theorem appEnd_ap (i : Nat) (d : D) : appEnd i d ρ = need (getO ρ[i]?) fun ds => if ds.length < sizeLine then .ok (.nx (ρ.set i (some (.own (ds ++ [d]))))) else .stuck := by
  unfold appEnd
  rw [slotO_ap]
  cases getO ρ[i]? <;> rfl
@[simp] theorem sApp_ap (i : Nat) (m : ME) : sApp i m ρ = need (getO ρ[i]?) fun _ => (m ρ).bind fun p => appEnd i p.1 p.2 := by
  unfold sApp
  rw [slotO_ap]
  cases getO ρ[i]? with
  | none => rfl
  | some ds => exact sThen_ap ρ m _
def getD? : Option (Option MV) → Option D
  | some (some (.dat d)) => some d
  | _ => none
@[simp] theorem getD?_dat (d : D) : getD? (some (some (.dat d))) = some d := rfl
@[simp] theorem sAug_ap (g : D → D → Res D) (i : Nat) (m : ME) : sAug g i m ρ = need (getD? ρ[i]?) fun x => (m ρ).bind fun p => (g x p.1).keep.bind fun z => .ok (.nx (p.2.set i (some (.dat z)))) := by
  unfold sAug
  split
  · rename_i x e
    rw [e]
    show sThen m _ ρ = _
    rw [sThen_ap, getD?_dat, need_some]
    congr; funext p
    cases g x p.1 <;> rfl
  · rename_i h
    have : getD? ρ[i]? = none := by
      unfold getD?
      split
      · rename_i d e
        exact absurd e (h d)
      · rfl
    rw [this, need_none]
@[simp] theorem gN_ap (i : Nat) (d : D) : gN i d ρ = .ok (ρ.set i (some (.dat d))) := rfl
@[simp] theorem gsNil_ap : gsNil [] ρ = .ok ρ := rfl
@[simp] theorem gsCons_ap (g : MG) (gs : MGs) (d : D) (r : List D) : gsCons g gs (d :: r) ρ = (g d ρ).keep.bind fun ρ1 => gs r ρ1 := by
  unfold gsCons
  show (match g d ρ with
    | .ok ρ1 => gs r ρ1
    | _ => .stuck) = _
  cases g d ρ <;> rfl
@[simp] theorem gT_ap (n : Nat) (gs : MGs) (ds : List D) : gT n gs (.tup ds) ρ = if ds.length = n then gs ds ρ else .stuck := rfl
@[simp] theorem setEnd_ap (i : Nat) (d : D) (n : Int) : setEnd i d (.int n) ρ = need (getO ρ[i]?) fun ds => need (ixN ds.length n) fun j => .ok (ρ.set i (some (.own (ds.set j d)))) := by
  unfold setEnd
  rw [slotO_ap]
  cases getO ρ[i]? with
  | none => rfl
  | some ds =>
    show (match ixN ds.length n with
      | some j => Res.ok (ρ.set i (some (MV.own (ds.set j d))))
      | none => .stuck) = _
    rw [need_some]
    cases ixN ds.length n <;> rfl
@[simp] theorem gIx_ap (i : Nat) (m : ME) (d : D) : gIx i m d ρ = need (getO ρ[i]?) fun _ => (m ρ).keep.bind fun p => setEnd i d p.1 p.2 := by
  unfold gIx
  rw [slotO_ap]
  cases getO ρ[i]? with
  | none => rfl
  | some ds =>
    rw [need_some]
    show (match m ρ with
      | .ok (k, ρ1) => setEnd i d k ρ1
      | _ => .stuck) = _
    cases m ρ <;> rfl
@[simp] theorem sFor_ap (m : MA) (g : MG) (b : MS) : sFor m g b ρ = (m ρ).bind fun p => loop g b p.1 p.2 := sThen_ap ρ m _
@[simp] theorem oComp_ap (mi : MA) (g : MG) (vs : List Nat) (c : MB) (e : ME) : oComp mi g vs c e ρ = (mi ρ).bind fun p => compLoop g vs c e p.1 [] p.2 := by
  unfold oComp; cases mi ρ <;> rfl
@[simp] theorem wipeE_nil : wipeE ρ [] = ρ := rfl
@[simp] theorem wipeE_cons (v : Nat) (vs : List Nat) : wipeE ρ (v :: vs) = (wipeE ρ vs).set v none := rfl
end
def Fl.out (f : Fl) : Res D := match f with
  | .rt d _ => .ok d
  | .nx _ => .ok .non
  | _ => .stuck
@[simp] theorem Fl.out_rt (d : D) (ρ : En) : (Fl.rt d ρ).out = .ok d := rfl
@[simp] theorem Fl.out_nx (ρ : En) : (Fl.nx ρ).out = .ok .non := rfl
def Fl.outB (f : Fl) : Res (D × List D) := match f with
  | .rt d ρ => need (getO ρ[0]?) fun bs => .ok (d, bs)
  | .nx ρ => need (getO ρ[0]?) fun bs => .ok (.non, bs)
  | _ => .stuck
@[simp] theorem Fl.outB_rt (d : D) (ρ : En) : (Fl.rt d ρ).outB = need (getO ρ[0]?) fun bs => .ok (d, bs) := rfl
@[simp] theorem Fl.outB_nx (ρ : En) : (Fl.nx ρ).outB = need (getO ρ[0]?) fun bs => .ok (.non, bs) := rfl
theorem runP_ap (n m : Nat) (b : MS) (ds : List D) (h : ds.length = m) : runP n m b ds = (b (startE n (ds.map MV.dat))).bind Fl.out := by
  unfold runP
  rw [if_pos h]
  cases b (startE n (ds.map MV.dat)) with
  | ok f => cases f <;> rfl
  | exn c fs => rfl
  | stuck => rfl
theorem runB_ap (n m : Nat) (b : MS) (bs ds : List D) (h : ds.length + 1 = m) : runB n m b bs ds = (b (startE n (MV.own bs :: ds.map MV.dat))).keep.bind Fl.outB := by
  unfold runB
  rw [if_pos h]
  cases b (startE n (MV.own bs :: ds.map MV.dat)) with
  | ok f =>
    cases f with
    | rt d ρ =>
      show (match slotO ρ 0 with
        | some bs' => Res.ok (d, bs')
        | none => .stuck) = need _ _
      rw [slotO_ap]
      cases getO ρ[0]? <;> rfl
    | nx ρ =>
      show (match slotO ρ 0 with
        | some bs' => Res.ok (D.non, bs')
        | none => .stuck) = need _ _
      rw [slotO_ap]
      cases getO ρ[0]? <;> rfl
    | bk ρ => rfl
    | ct ρ => rfl
  | exn c fs => rfl
  | stuck => rfl
theorem runP_if (n m : Nat) (b : MS) (ds : List D) : runP n m b ds = if ds.length = m then (b (startE n (ds.map MV.dat))).bind Fl.out else .stuck := by
  by_cases h : ds.length = m
  · rw [runP_ap n m b ds h, if_pos h]
  · rw [if_neg h]; unfold runP; rw [if_neg h]
theorem runB_if (n m : Nat) (b : MS) (bs ds : List D) : runB n m b bs ds = if ds.length + 1 = m then (b (startE n (MV.own bs :: ds.map MV.dat))).keep.bind Fl.outB else .stuck := by
  by_cases h : ds.length + 1 = m
  · rw [runB_ap n m b bs ds h, if_pos h]
  · rw [if_neg h]; unfold runB; rw [if_neg h]
@[simp] theorem addD_int (a b : Int) : addD (.int a) (.int b) = .ok (.int (a + b)) := rfl
@[simp] theorem iaddD_int (a b : Int) : iaddD (.int a) (.int b) = .ok (.int (a + b)) := rfl
@[simp] theorem subD_int (a b : Int) : subD (.int a) (.int b) = .ok (.int (a - b)) := rfl
theorem mulD_l {a b : Int} (h1 : -18446744073709551616 < a) (h2 : a < 18446744073709551616) : mulD (.int a) (.int b) = .ok (.int (a * b)) := if_pos (mulOk_l (by omega) (by omega))
theorem mulD_r {a b : Int} (h1 : -18446744073709551616 < b) (h2 : b < 18446744073709551616) : mulD (.int a) (.int b) = .ok (.int (a * b)) := if_pos (mulOk_r (by omega) (by omega))
theorem fdivD_int {a b : Int} (h1 : 0 < b) (h2 : b.natAbs.log2 < 9000) : fdivD (.int a) (.int b) = .ok (.int (a / b)) := if_pos ⟨h1, h2⟩
theorem modD_int {a b : Int} (h1 : 0 < b) : modD (.int a) (.int b) = .ok (.int (a % b)) := if_pos h1
@[simp] theorem negD_int (a : Int) : negD (.int a) = .ok (.int (-a)) := rfl
@[simp] theorem ltD_int (a b : Int) : ltD (.int a) (.int b) = .ok (.bl (decide (a < b))) := rfl
@[simp] theorem leD_int (a b : Int) : leD (.int a) (.int b) = .ok (.bl (decide (a ≤ b))) := rfl
@[simp] theorem gtD_int (a b : Int) : gtD (.int a) (.int b) = .ok (.bl (decide (b < a))) := rfl
@[simp] theorem geD_int (a b : Int) : geD (.int a) (.int b) = .ok (.bl (decide (b ≤ a))) := rfl
theorem flatD_int (a : Int) : flatD (.int a) = true := rfl
theorem flatD_bl (a : Bool) : flatD (.bl a) = true := rfl
theorem eqB_int (a b : Int) : eqB (.int a) (.int b) = decide (a = b) := by
  show (a == b) = _
  rw [Bool.eq_iff_iff]; simp
theorem eqF_ok {a b : D} (ha : flatD a = true) (hb : flatD b = true) : eqF a b = .ok (.bl (eqB a b)) := by unfold eqF; rw [if_pos ⟨ha, hb⟩]
theorem neF_ok {a b : D} (ha : flatD a = true) (hb : flatD b = true) : neF a b = .ok (.bl (!eqB a b)) := by unfold neF; rw [if_pos ⟨ha, hb⟩]
@[simp] theorem eqD_int (a b : Int) : eqD (.int a) (.int b) = .ok (.bl (decide (a = b))) := by
  rw [← eqB_int]
  exact eqF_ok (flatD_int a) (flatD_int b)
@[simp] theorem neD_int (a b : Int) : neD (.int a) (.int b) = .ok (.bl (decide (a ≠ b))) := by
  have : neD (.int a) (.int b) = .ok (.bl (!eqB (.int a) (.int b))) := neF_ok (flatD_int a) (flatD_int b)
  rw [this, eqB_int]; simp
@[simp] theorem eqD_bl (a b : Bool) : eqD (.bl a) (.bl b) = .ok (.bl (decide (a = b))) := by
  have : eqD (.bl a) (.bl b) = .ok (.bl (eqB (.bl a) (.bl b))) := eqF_ok (flatD_bl a) (flatD_bl b)
  rw [this]
  cases a <;> cases b <;> rfl
@[simp] theorem eqD_str (a b : Str) : eqD (.str a) (.str b) = .ok (.bl (a == b)) := rfl
@[simp] theorem neD_str (a b : Str) : neD (.str a) (.str b) = .ok (.bl (a != b)) := rfl
@[simp] theorem intD_int (a : Int) : ML.intD [.int a] = .ok (.int a) := rfl
@[simp] theorem intD_bl (b : Bool) : ML.intD [.bl b] = .ok (.int (if b then 1 else 0)) := rfl
@[simp] theorem absD_int (a : Int) : absD [.int a] = .ok (.int (if a < 0 then -a else a)) := rfl
@[simp] theorem lenD_lst (xs : List D) : lenD [.lst xs] = .ok (.int xs.length) := rfl
@[simp] theorem lenD_tup (xs : List D) : lenD [.tup xs] = .ok (.int xs.length) := rfl
@[simp] theorem lenD_klst (xs : List D) : lenD [.klst xs] = .ok (.int xs.length) := rfl
@[simp] theorem tupleD_lst (xs : List D) : tupleD [.lst xs] = .ok (.tup xs) := rfl
@[simp] theorem tupleD_tup (xs : List D) : tupleD [.tup xs] = .ok (.tup xs) := rfl
@[simp] theorem isiD_int_int (a : Int) : isiD [.int a, .ty "int"] = .ok (.bl true) := by
  show (if "int" ∈ ["bool", "int", "str", "tuple", "list"] then Res.ok (D.bl (isB "int" "int")) else Res.stuck) = _
  rw [if_pos (by decide), show isB "int" "int" = true by decide]
@[simp] theorem isiD_int_bool (a : Int) : isiD [.int a, .ty "bool"] = .ok (.bl false) := by
  show (if "bool" ∈ ["bool", "int", "str", "tuple", "list"] then Res.ok (D.bl (isB "int" "bool")) else Res.stuck) = _
  rw [if_pos (by decide), show isB "int" "bool" = false by decide]
@[simp] theorem asAny_lst (xs : List D) : asAny (.lst xs) = .ok xs := rfl
@[simp] theorem asAny_tup (xs : List D) : asAny (.tup xs) = .ok xs := rfl
@[simp] theorem zipD_lt (xs ys : List D) : zipD [.lst xs, .tup ys] = .ok (List.zipWith (fun x y => D.tup [x, y]) xs ys) := rfl
@[simp] theorem maxD_two (a b : Int) : maxD [.int a, .int b] = .ok (.int (if b > a then b else a)) := rfl
@[simp] theorem minD_two (a b : Int) : minD [.int a, .int b] = .ok (.int (if b < a then b else a)) := rfl
theorem atD_nat {ds : List D} {k : Nat} {d : D} (h : ds[k]? = some d) : atD ds (k : Int) = .ok d := by
  unfold atD
  rw [atI_nat h]
theorem atD_int {ds : List D} {k : Int} {d : D} (h0 : 0 ≤ k) (h : ds[k.toNat]? = some d) : atD ds k = .ok d := by
  have e : k = ((k.toNat : Nat) : Int) := by omega
  rw [e]
  exact atD_nat h
theorem loop_inv {g : MG} {b : MS} (P : Nat → En → Prop) {ds : List D} {ρ : En} (h0 : P 0 ρ)
    (hs : ∀ (i : Nat) (d : D) (ρ : En), ds[i]? = some d → P i ρ → ∃ ρ1, g d ρ = .ok ρ1 ∧ ∃ ρ2, (b ρ1 = .ok (.nx ρ2) ∨ b ρ1 = .ok (.ct ρ2)) ∧ P (i + 1) ρ2) :
    ∃ ρ', loop g b ds ρ = .ok (.nx ρ') ∧ P ds.length ρ' := by
  have key : ∀ (rest : List D) (i : Nat) (ρ : En), i ≤ ds.length → ds.drop i = rest → P i ρ → ∃ ρ', loop g b rest ρ = .ok (.nx ρ') ∧ P ds.length ρ' := by
    intro rest
    induction rest with
    | nil =>
      intro i ρ hl hd hp
      have hl2 : ds.length ≤ i := List.drop_eq_nil_iff.mp hd
      have e : i = ds.length := by omega
      subst e
      exact ⟨ρ, rfl, hp⟩
    | cons d rest ih =>
      intro i ρ hl hd hp
      have hi : ds[i]? = some d := by
        rw [← List.head?_drop, hd]; rfl
      have hlt : i < ds.length := (List.getElem?_eq_some_iff.mp hi).1
      have hd' : ds.drop (i + 1) = rest := by
        rw [← List.tail_drop, hd]; rfl
      obtain ⟨ρ1, e1, ρ2, e2, hp2⟩ := hs i d ρ hi hp
      obtain ⟨ρ', e3, hp3⟩ := ih (i + 1) ρ2 (by omega) hd' hp2
      refine ⟨ρ', ?_, hp3⟩
      unfold loop
      rw [e1]
      rcases e2 with e2 | e2
      · simp only [e2, e3]
      · simp only [e2, e3]
  exact key ds 0 ρ (Nat.zero_le _) rfl h0
end ML


namespace ML
open PySem PySem.Spec PyProof.Rows L2
variable [Tabs]
def eStuck : ME := fun _ => .stuck
def sStuck : MS := fun _ => .stuck
section
variable {X : Cx} {EW : XK} {rf : List Nat}
end
@[simp] theorem eStuck_ap (ρ : En) : eStuck ρ = .stuck := rfl
@[simp] theorem sStuck_ap (ρ : En) : sStuck ρ = .stuck := rfl
section
variable {X : Cx} {EW : XK} {rf : List Nat} {H0 : Hp} {A : List (Nat × Addr)} {σ : L2.St} {H H1 : Hp}
theorem rM.thenX {α α' β β' : Type} {R : β → α → Hp → Prop} {R' : β' → α' → Hp → Prop} {m : En → Res (α × En)} {k : α → En → Res (α' × En)} {Q : β' → Hp → Prop} (h : rM X EW H0 A R' (mThen m k) σ H Q) :
    rM X EW H0 A R m σ H fun v H1 => ∃ d, R v d H1 ∧ Ext H H1 ∧ rM X EW H0 A R' (k d) σ H1 Q := by
  obtain ⟨ρ, r, h⟩ := h
  refine ⟨ρ, r, ?_⟩
  unfold mThen at h
  cases e : m ρ with
  | ok p =>
    obtain ⟨d, ρ1⟩ := p
    rw [e] at h
    refine fun v H1 r1 e1 rv => ⟨d, rv, e1, ρ1, r1, ?_⟩
    simp only at h
    cases e2 : k d ρ1 with
    | ok q =>
      obtain ⟨d2, ρ2⟩ := q
      rw [e2] at h
      exact fun v2 H2 r2 x2 rv2 => h v2 H2 r2 (e1.trans x2) rv2
    | exn c fs => rw [e2] at h; exact h
    | stuck => rw [e2] at h; exact h
  | exn c fs => rw [e] at h; exact h
  | stuck => rw [e] at h; exact h
theorem rM.same {α β : Type} {R : β → α → Hp → Prop} {m : En → Res (α × En)} {Q : β → Hp → Prop} (h : rM X EW H0 A R m σ H Q) (s : Same H H1) : rM X EW H0 A R m σ H1 Q := by
  obtain ⟨ρ, r, h⟩ := h
  refine ⟨ρ, r.same s, ?_⟩
  cases e : m ρ with
  | ok p => rw [e] at h; exact fun v H' a b c => h v H' a ((Ext.of_same s).trans b) c
  | exn c fs => rw [e] at h; exact h
  | stuck => rw [e] at h; exact h
end
def eChain (g g' : D → D → Res D) (ma mb mc : ME) : ME := mThen ma fun dx => mThen mb fun dy => match g dx dy with
  | .ok (.bl true) => mLast mc fun dz => g' dy dz
  | .ok (.bl false) => fun ρ => .ok (.bl false, ρ)
  | _ => fun _ => .stuck
section
variable {X : Cx} {EW : XK} {rf : List Nat} {H0 : Hp} {A : List (Nat × Addr)} {σ : L2.St} {H : Hp}
theorem chain_q {g g' : D → D → Res D} {ma mb mc : ME} {Q : VK} (hx' : ∀ a b c fs, g' a b ≠ .exn c fs) (q : rM X EW H0 A (RE X) (eChain g g' ma mb mc) σ H Q) :
    tChain (fun x y H Q => ∃ dx dy d, RD X.K X.mg H x dx ∧ RD X.K X.mg H y dy ∧ g dx dy = .ok d ∧ ∀ v H', Same H H' → RD X.K X.mg H' v d → Q v H')
      (fun x y H Q => ∃ dx dy d, RD X.K X.mg H x dx ∧ RD X.K X.mg H y dy ∧ g' dx dy = .ok d ∧ ∀ v H', Same H H' → RD X.K X.mg H' v d → Q v H')
      (rM X EW H0 A (RE X) ma) (rM X EW H0 A (RE X) mb) (rM X EW H0 A (RE X) mc) σ H Q := by
  refine (rM.thenX (R := RE X) q).mono fun x H1 ⟨dx, rx, x1, q⟩ => ?_
  refine (rM.thenX (R := RE X) q).mono fun y H2 ⟨dy, ry, x2, q⟩ => ?_
  cases e : g dx dy with
  | ok d =>
    rw [e] at q
    cases d with
    | bl b =>
      refine ⟨dx, dy, .bl b, RD.ext x2 rx, ry, e, fun v H3 s rv => ?_⟩
      cases rv
      refine ⟨b, rfl, ?_⟩
      cases b with
      | true =>
        rw [if_pos rfl]
        have q := rM.same q s
        obtain ⟨ρ, rr, q⟩ := q
        simp only at q
        obtain ⟨ρ', rr', q'⟩ := rM.last (R := RE X) ⟨ρ, rr, q⟩ (hx' dy)
        refine ⟨ρ', rr', ?_⟩
        cases ec : mc ρ' with
        | ok p =>
          obtain ⟨dz, ρ2⟩ := p
          rw [ec] at q'
          refine fun z H4 r4 x4 rz => ?_
          obtain ⟨dz', d, rz', hd, q'⟩ := q' z H4 r4 x4 rz
          exact ⟨dy, dz', d, RD.ext ((Ext.of_same s).trans x4) ry, rz', hd, q'⟩
        | exn c fs => rw [ec] at q'; exact q'
        | stuck => rw [ec] at q'; exact q'
      | false =>
        rw [if_neg Bool.false_ne_true]
        exact rM.pure (R := RE X) (d := .bl false) q s (RD.bl false)
    | _ => obtain ⟨ρ, rr, q⟩ := q; exact q.elim
  | exn c fs => rw [e] at q; obtain ⟨ρ, rr, q⟩ := q; exact q.elim
  | stuck => rw [e] at q; obtain ⟨ρ, rr, q⟩ := q; exact q.elim
theorem le_chain {op op' : CmpOp} {a b c : Expr} {g g' : D → D → Res D} {ma mb mc : ME} {pos : Pos} (ho : Op2 X (compareOp op) g) (ho' : Op2 X (compareOp op') g') (ha : LE X EW rf a ma) (hb : LE X EW rf b mb) (hc : LE X EW rf c mc)
    (hm : lastMarks [op, op'] [b, c] = false := by with_unfolding_all rfl) : LE X EW rf (.Compare a [op, op'] [b, c] pos) (eChain g g' ma mb mc) :=
  ⟨fun H0 A hA => (pe_chain ho.2 ho'.2 (ha.run H0 A hA) (hb.run H0 A hA) (hc.run H0 A hA) hm).imp fun σ H Q q => chain_q ho'.1 q⟩
end
@[simp] theorem eChain_ap (g g' : D → D → Res D) (ma mb mc : ME) (ρ : En) : eChain g g' ma mb mc ρ = (ma ρ).bind fun p => (mb p.2).bind fun q => (g p.1 q.1).keep.bind fun b => (asB b).bind fun c => if c = true then (mc q.2).bind fun z => (g' q.1 z.1).bind fun d => .ok (d, z.2) else .ok (.bl false, q.2) := by
  unfold eChain
  rw [mThen_ap]
  congr; funext p
  rw [mThen_ap]
  congr; funext q
  cases g p.1 q.1 with
  | ok d =>
    cases d with
    | bl b =>
      cases b with
      | true => simp [mLast_ap]
      | false => simp
    | _ => rfl
  | exn c fs => rfl
  | stuck => rfl
def rngL (i c : Int) (n : Nat) : List D := (List.range n).map fun (k : Nat) => D.int (i + (k : Int) * c)
def rng3 (ds : List D) : Res (List D) := match ds with
  | [.int i, .int j, .int c] => if 0 < c ∧ c < 1073741824 ∧ Builtin.Range.small i j c = true then .ok (rngL i c (Builtin.Range.rangeSize i j c).toNat) else .stuck
  | _ => .stuck
theorem rangeSize_pos {i j c : Int} (h : 0 < c) : 0 ≤ Builtin.Range.rangeSize i j c := by
  unfold Builtin.Range.rangeSize
  rw [if_pos h]
  split
  · have := Int.ediv_nonneg (a := j - i - 1) (b := c) (by omega) (by omega)
    omega
  · omega
section
variable {X : Cx} {EW : XK} {rf : List Nat} {H : Hp}
theorem three {vs : List V} {i j c : Int} (rd : RDs X.K X.mg H vs [.int i, .int j, .int c]) : vs = [.int i, .int j, .int c] := by
  cases rd with
  | cons r t =>
    cases r
    cases t with
    | cons r t =>
      cases r
      cases t with
      | cons r t => cases r; cases t; rfl
def listRng (ds : List D) : Res (List D) := match ds with
  | [.int i, .int j, .int c] => if 0 < c ∧ c < 1073741824 ∧ Builtin.Range.small i j c = true ∧ (Builtin.Range.rangeSize i j c).toNat ≤ 16777216 then .ok (rngL i c (Builtin.Range.rangeSize i j c).toNat) else .stuck
  | _ => .stuck
theorem nx_listRng (a : List D) (c : Str) (fs : List (Str × D)) : listRng a ≠ .exn c fs := by unfold listRng; split <;> (try split) <;> simp
def rgVc (i c : Int) (n : Nat) : List V := (List.range n).map fun (k : Nat) => V.int (i + (k : Int) * c)
theorem vals_rgc {i c : Int} {n : Nat} {acc : Array Value} (h : ItemsOf (fun k v => ∃ t, v = .int (i + k * c) t) acc n) : Vals (rgVc i c n) acc.toList := by
  have e : acc.toList.length = n := by rw [Array.length_toList]; exact h.1
  unfold rgVc
  rw [← e]
  refine vals_of_get acc.toList _ fun j u hj => ?_
  obtain ⟨t, rfl⟩ := h.2 j u (by rw [← hj, Array.getElem?_toList])
  exact ⟨t, rfl⟩
theorem rds_rgc {K : PySem.W.Frag} {mg : Str → Option Value} {i c : Int} {n : Nat} : RDs K mg H (rgVc i c n) (rngL i c n) := by
  have : ∀ l : List Nat, RDs K mg H (l.map fun (k : Nat) => V.int (i + (k : Int) * c)) (l.map fun (k : Nat) => D.int (i + (k : Int) * c)) := by
    intro l
    induction l with
    | nil => exact .nil
    | cons k l ih => exact .cons (.int _) ih
  exact this _
def tLstRg3 (ta : TA) : TE := fun σ H Q => ta σ H fun vs H1 => ∃ (i j c : Int) (n : Nat), vs = [.int i, .int j, .int c] ∧ RgC i j c n ∧ n ≤ 16777216 ∧ ∀ q, H1 q = none → Q (.ref q) (upd H1 q (.lst (rgVc i c n)))
theorem pe_listRg3 {a b c : Expr} {ta : TA} {p p2 pos pos2 : Pos} (hc : X.calm = true) (hg : Gl X "list") (hm : X.mg "list" = none) (hg2 : Gl X "range") (hm2 : X.mg "range" = none) (ha : PA X [a, b, c] ta)
    (na : starEach [.Call (.Name "range" p2) [a, b, c] [] pos2] X.env = (false, eval (.Call (.Name "range" p2) [a, b, c] [] pos2) X.env) :: starEach [] X.env := by rfl)
    (hs : starEach [a, b, c] X.env = (false, eval a X.env) :: starEach [b, c] X.env := by rfl) (hpl : (backTo pos2 (starEach [b, c] X.env)).any (·.1) = false := by rfl) :
    PE X (.Call (.Name "list" p) [.Call (.Name "range" p2) [a, b, c] [] pos2] [] pos) (tLstRg3 ta) := by
  refine ⟨fun pins s σ H Q I h => ?_⟩
  refine Call_ (ld_blt I hg hm boot_list (PyProof.Rows.callWith_type1 (args_cons (Call_ (ld_blt I hg2 hm2 boot_range (PyProof.Rows.callWith_type1 (thn (ha.run pos2 pins s σ H _ I h) fun us s1 ⟨vs, H1, I1, r1, q1⟩ => ?_) hs hpl))) na) na))
  obtain ⟨i, j, k, n, e, ⟨c0, c1, c2, c3⟩, hz, q⟩ := q1
  subst e
  cases r1 with
  | cons r rr =>
    cases rr with
    | cons r' rr =>
      cases rr with
      | cons r'' rr =>
        cases rr
        obtain ⟨t, rfl⟩ := r
        obtain ⟨t', rfl⟩ := r'
        obtain ⟨t'', rfl⟩ := r''
        refine call_range_3 c0 (args_nil ?_) (.inl (PyProof.noPylong_small c1))
        have I2 : L2.Inv X pins σ H1 { s1 with heap := s1.heap.push { cls := .type "range", data := .fields #[.int i t, .int j t', .int k t''] } } := I1.kept (t' := s1.toks) fun b o e => Heap.get?_push_of_some _ e
        refine call_list_range (n := n) (I2.ok.hd hc) (IsRange.new ..) c2 c3 (by omega) fun h' tk acc c' hk e' hi => ?_
        refine ⟨.ref _, upd H1 _ (.lst (rgVc i k n)), I2.laid hk (Nat.le_refl _) (show ObjOk X.prog X.w _ _ _ (.lst (rgVc i k n)) from ⟨?_, acc.toList, c', vals_rgc hi, ?_⟩), rfl, q _ (I2.hok.fresh (Nat.le_refl _))⟩
        · unfold rgVc; rw [List.length_map, List.length_range, sizeLine_eq]; omega
        · rw [Array.toArray_toList]; exact e'
theorem lo_rng3 {k : Nat} {a b c : Expr} {m : MA} {p p2 pos pos2 : Pos} (ck : Cok X EW k) (hg : Gl X "list") (hm : X.mg "list" = none) (hg2 : Gl X "range") (hm2 : X.mg "range" = none) (h : LA X EW rf [a, b, c] m)
    (na : starEach [.Call (.Name "range" p2) [a, b, c] [] pos2] X.env = (false, eval (.Call (.Name "range" p2) [a, b, c] [] pos2) X.env) :: starEach [] X.env := by rfl)
    (hs : starEach [a, b, c] X.env = (false, eval a X.env) :: starEach [b, c] X.env := by rfl) (hpl : (backTo pos2 (starEach [b, c] X.env)).any (·.1) = false := by rfl) :
    LO X EW rf (.Call (.Name "list" p) [.Call (.Name "range" p2) [a, b, c] [] pos2] [] pos) (mLast m listRng) := by
  refine ⟨fun H0 A hA => (pe_listRg3 ck.hc hg hm hg2 hm2 (h.run H0 A hA) na hs hpl).imp fun σ H Q q => ?_⟩
  obtain ⟨ρ, r, q⟩ := q
  refine ⟨ρ, r, ?_⟩
  unfold mLast at q
  cases em : m ρ with
  | ok pr =>
    obtain ⟨ds, ρ1⟩ := pr
    rw [em] at q
    simp only at q
    refine fun vs H1 r1 x1 rv => ?_
    cases el : listRng ds with
    | ok xs =>
      rw [el] at q
      simp only at q
      unfold listRng at el
      split at el
      · rename_i i j c
        split at el
        · rename_i hj
          cases el
          refine ⟨i, j, c, _, three rv, ⟨by omega, by omega, hj.2.2.1, (Int.toNat_of_nonneg (rangeSize_pos hj.1)).symm⟩, hj.2.2.2, fun p hp => ?_⟩
          exact q p _ _ (r1.track hp _) (r1.fresh hp) (r1.notA hp) rds_rgc (x1.trans (Ext.of_same (same_new hp _)))
        · cases el
      · cases el
    | exn c fs => exact absurd el (nx_listRng ds c fs)
    | stuck => rw [el] at q; exact q.elim
  | exn c fs => rw [em] at q; exact q
  | stuck => rw [em] at q; exact q
end
def extEnd (i : Nat) (es : List D) (ρ : En) : Res Fl := match slotO ρ i with
  | some ds => if ds.length + es.length ≤ sizeLine then .ok (.nx (ρ.set i (some (.own (ds ++ es))))) else .stuck
  | none => .stuck
def sExt (i : Nat) (m : MA) : MS := fun ρ => match slotO ρ i with
  | some _ => sThen m (extEnd i) ρ
  | none => .stuck
@[simp] theorem extEnd_ap (i : Nat) (es : List D) (ρ : En) : extEnd i es ρ = need (getO ρ[i]?) fun ds => if ds.length + es.length ≤ sizeLine then .ok (.nx (ρ.set i (some (.own (ds ++ es))))) else .stuck := by
  unfold extEnd
  rw [slotO_ap]
  cases getO ρ[i]? <;> rfl
@[simp] theorem sExt_ap (i : Nat) (m : MA) (ρ : En) : sExt i m ρ = need (getO ρ[i]?) fun _ => (m ρ).bind fun p => extEnd i p.1 p.2 := by
  unfold sExt
  rw [slotO_ap]
  cases getO ρ[i]? with
  | none => rfl
  | some ds => exact sThen_ap ρ m _
section
variable {X : Cx} {EW : XK} {rf : List Nat}
end
end ML


namespace ML
open PySem PySem.Spec PyProof.Rows L2
variable [Tabs]
def getF : Option (Option MV) → Option Str
  | some (some (.dat (.fn g))) => some g
  | _ => none
@[simp] theorem getF_fn (g : Str) : getF (some (some (.dat (.fn g)))) = some g := rfl
section
variable {X : Cx} {k : Nat} {EW : XK} {rf : List Nat} {x : Str} {p pos : Pos} {e : Expr} {es : List Expr} {m : MA}
end
def TupF (K : PySem.W.Frag) (mg : Str → Option Value) (x : Str) (ds : List D) : Prop := ∃ a, mg x = some (Value.ref a) ∧ ∀ H, RD K mg H (.ref a) (.tup ds)
def TabF (K : PySem.W.Frag) (w : World) (mg : Str → Option Value) (x : Str) (kds : List (Str × D)) : Prop :=
  ∃ a es n, mg x = some (Value.ref a) ∧ KDict K w a es n ∧ ∀ k d, kds.lookup k = some d → ∃ v u, PySem.W.nsIn K a k = some (some u) ∧ RelV v u ∧ ∀ H, RD K mg H v d
def tabD (kds : List (Str × D)) (k : D) : Res D := match k with
  | .str z => (match kds.lookup z with
    | some d => .ok d
    | none => .stuck)
  | _ => .stuck
theorem nx_tab (kds : List (Str × D)) (k : D) (c : Str) (fs : List (Str × D)) : tabD kds k ≠ .exn c fs := by unfold tabD; split <;> (try split) <;> simp
section
variable {X : Cx} {EW : XK} {rf : List Nat}
theorem lgc {x : Str} {ds : List D} {pos : Pos} (hm : TupF X.K X.mg x ds) (hg : Gl X x := by rfl) (hd : (x == ("__debug__" : Str)) = false := by decide) : LE X EW rf (.Name x pos) (eC (.tup ds)) :=
  ⟨fun H0 A hA => by obtain ⟨a, e, r⟩ := hm; exact (le_glob (rf := rf) (EW := EW) (v := .ref a) hg e rfl r hd).run H0 A hA⟩
theorem le_tab {x : Str} {kds : List (Str × D)} {e : Expr} {m : ME} {p pos : Pos} (hT : TabF X.K X.w X.mg x kds) (h : LE X EW rf e m) (hs : PlainIx e) (hg : Gl X x := by rfl) (hd : (x == ("__debug__" : Str)) = false := by decide) :
    LE X EW rf (.Subscript (.Name x p) e pos) (e1 (tabD kds) m) := by
  obtain ⟨a, es, n, hm, KD, hv⟩ := hT
  refine ⟨fun H0 A hA => (pe_ix ix_kdict (pe_glob (v := .ref a) hg hm rfl hd) (h.run H0 A hA) hs).imp fun σ H Q q => ?_⟩
  refine (rM.last (R := RE X) q (nx_tab kds)).mono fun y H1 ⟨dy, d, ry, hd, q⟩ => ?_
  unfold tabD at hd
  split at hd
  · rename_i z
    split at hd
    · rename_i d' el
      cases hd
      cases ry
      obtain ⟨v, u, h1, h2, h3⟩ := hv z _ el
      exact ⟨a, z, v, rfl, rfl, ⟨es, n, u, KD.at_, KD.lit, h1, h2⟩, q v H1 (Same.refl H1) (h3 H1)⟩
    · cases hd
  · cases hd
end
def dvD : He.Dv → D
  | .int i => .int i
  | .bl b => .bl b
  | .str x => .str x
  | .glo x => .fn x
  | _ => .non
def dvOk (K : PySem.W.Frag) : He.Dv → Bool
  | .glo x => (He.Fa.glo x).ok K
  | .int _ => true
  | .bl _ => true
  | .str _ => true
  | .non => true
  | _ => false
section
variable {K : PySem.W.Frag} {h : Heap} {mg : Str → Option Value} {w : World}
theorem rd_dv (X : K.In h) (G : h.Ns mainGlobals mg) {v : He.Dv} (c : dvOk K v = true) (H : Hp) : RD K mg H (v.v K) (dvD v) := by
  cases v with
  | non => exact .non
  | bl b => exact .bl b
  | int i => exact .int i
  | str x => exact .str x
  | glo x => exact .fn (He.glo_ok X G c)
  | _ => cases c
theorem rds_dv (X : K.In h) (G : h.Ns mainGlobals mg) (H : Hp) : ∀ {vs : List He.Dv}, vs.all (dvOk K) = true → RDs K mg H (vs.map (He.Dv.v K)) (vs.map dvD)
  | [], _ => .nil
  | v :: vs, c => by
    rw [List.all_cons, Bool.and_eq_true] at c
    exact .cons (rd_dv X G c.1 H) (rds_dv X G H c.2)
def noDict (K : PySem.W.Frag) (a : Addr) : Bool := match K.lookup a with
  | some o => o.dict.isNone
  | none => true
def tupC (K : PySem.W.Frag) (x : Str) (vs : List He.Dv) : Bool := (He.Fa.glo x).ok K && (He.tupB K x vs && (noDict K (He.ga K x) && vs.all (dvOk K)))
theorem tupC_ok (X : K.In h) (G : h.Ns mainGlobals mg) {x : Str} {vs : List He.Dv} {ds : List D} (c : tupC K x vs = true) (e : vs.map dvD = ds) : TupF K mg x ds := by
  unfold tupC at c
  rw [Bool.and_eq_true, Bool.and_eq_true, Bool.and_eq_true] at c
  refine ⟨He.ga K x, He.glo_ok X G c.1, fun H => ?_⟩
  subst e
  refine .tup ?_ (rds_dv X G H c.2.2.2)
  rcases He.tupB_ok c.2.1 (fun _ => none) with (z | ⟨o, z⟩) | z
  · cases z
  · cases z
  · obtain ⟨o, its, n, z1, z2, z3⟩ := z
    have nd := c.2.2.1
    unfold noDict at nd
    rw [z1] at nd
    exact .inr ⟨o, its, n, z1, z2, Option.isNone_iff_eq_none.mp nd, z3⟩
def tabC (K : PySem.W.Frag) (x : Str) (kvs : List (Str × He.Dv)) : Bool := (He.Fa.glo x).ok K && (He.valsB K (He.ga K x) kvs && kvs.all fun q => dvOk K q.2)
theorem lookup_map {α β : Type} {f : α → β} : ∀ {l : List (Str × α)} {k : Str} {b : β}, (l.map fun q => (q.1, f q.2)).lookup k = some b → ∃ a, (k, a) ∈ l ∧ f a = b
  | [], _, _, h => by cases h
  | (k', a) :: l, k, b, h => by
    rw [List.map_cons, List.lookup_cons] at h
    by_cases e : k == k'
    · rw [e] at h
      have e' : k = k' := by simpa using e
      cases h
      exact ⟨a, by rw [e']; exact List.mem_cons_self .., rfl⟩
    · rw [Bool.not_eq_true] at e
      rw [e] at h
      obtain ⟨a', h1, h2⟩ := lookup_map h
      exact ⟨a', List.mem_cons_of_mem _ h1, h2⟩
theorem tabC_ok (X : K.In h) (G : h.Ns mainGlobals mg) {x : Str} {kvs : List (Str × He.Dv)} {kds : List (Str × D)} (c : tabC K x kvs = true) (kd : ∃ es n, KDict K w (He.ga K x) es n) (e : (kvs.map fun q => (q.1, dvD q.2)) = kds) : TabF K w mg x kds := by
  unfold tabC at c
  rw [Bool.and_eq_true, Bool.and_eq_true] at c
  obtain ⟨es, n, kd⟩ := kd
  refine ⟨He.ga K x, es, n, He.glo_ok X G c.1, kd, fun k d hl => ?_⟩
  subst e
  obtain ⟨a, hm, rfl⟩ := lookup_map hl
  obtain ⟨u, h1, h2⟩ := He.valsB_ok c.2.1 hm
  exact ⟨_, u, h1, h2, fun H => rd_dv X G (List.all_eq_true.mp c.2.2 _ hm) H⟩
end
abbrev AlM : Type := He.AlT × Bool
def obsM (fa : List He.Fa) (fn : List He.DefD) (ts : List He.Tab) (cs : PySem.W.Frag → Bool) (K : PySem.W.Frag) : AlM := (He.obsT fa fn ts K, cs K)
def valM (fn : List He.DefD) (ts : List He.Tab) (w : World) : AlM := (He.valT fn ts w, true)
def SaysM (fa : List He.Fa) (fn : List He.DefD) (ts : List He.Tab) (cs : PySem.W.Frag → Bool) (w : World) (K : PySem.W.Frag) : Prop := obsM fa fn ts cs K = valM fn ts w
section
variable {fa : List He.Fa} {fn : List He.DefD} {ts : List He.Tab} {cs : PySem.W.Frag → Bool} {w : World} {K : PySem.W.Frag}
theorem SaysM.t (c : SaysM fa fn ts cs w K) : He.SaysT fa fn ts w K := congrArg (fun z : AlM => z.1) c
theorem SaysM.d (c : SaysM fa fn ts cs w K) : He.SaysD fa fn K := c.t.d
theorem SaysM.b (c : SaysM fa fn ts cs w K) : cs K = true := congrArg (fun z : AlM => z.2) c
end
theorem fnN_zero {P : Program} {w : World} {K : PySem.W.Frag} {mg : Str → Option Value} {base : Heap} {k : Nat} {x : Str} {ps : List Str} {f : Addr} {fd : FuncData} (hm : mg x = some (Value.ref f)) (hk : PySem.W.keepIn K (.ref f) = true) (hb : Binds K fd ps []) :
    FnN P w K mg base k x ps (spP K mg fun _ => .stuck) :=
  ⟨f, fd, hm, hk, hb, ⟨fun vs H Q E h => h.elim fun _ z => z.2.2.elim, fun A outer s H args us vs Q E _ _ _ _ _ h => h.elim fun _ z => z.2.2.elim⟩⟩
end ML


namespace ML
open PySem PySem.Spec PyProof.Rows L2
variable [Tabs]
def isBD : D → D → Res D
  | .bl a, .bl b => .ok (.bl (decide (a = b)))
  | _, _ => .stuck
def isNBD : D → D → Res D
  | .bl a, .bl b => .ok (.bl (!decide (a = b)))
  | _, _ => .stuck
@[simp] theorem isBD_bl (a b : Bool) : isBD (.bl a) (.bl b) = .ok (.bl (decide (a = b))) := rfl
@[simp] theorem isNBD_bl (a b : Bool) : isNBD (.bl a) (.bl b) = .ok (.bl (!decide (a = b))) := rfl
section
variable {X : Cx}
end
def oexB (K : PySem.W.Frag) (C : Addr) : Bool := (match K.lookup C with
  | some ⟨.type "type", _, .cls cd, sl⟩ => (match cd.mro, sl.toList with
    | .ref C' :: bm, [_, _, _, _, some (.builtin n), _] => C' == C && n == "ValueError.__new__" && !cd.hasDel && cd.hasDict && PySem.HandSPX.refsVE bm
    | _, _ => false)
  | _ => false) && (He.eqO (PySem.W.findIn K (.ref C) "__setattr__") (some (some (.builtin "object.__setattr__"))) && (decide (PySem.W.subIn K (.ref C) (.type "BaseException") = some true) && (decide (PySem.W.typeIn K (.ref C) = some (.type "type")) && PySem.W.keepIn K (.ref C))))
theorem oexB_ok {K : PySem.W.Frag} {C : Addr} (h : oexB K C = true) : OexC K C := by
  unfold oexB at h
  rw [Bool.and_eq_true, Bool.and_eq_true, Bool.and_eq_true, Bool.and_eq_true] at h
  obtain ⟨q, h1, h2, h3, h4⟩ := h
  refine ⟨?_, He.eqO_ok h1, of_decide_eq_true h2, of_decide_eq_true h3, h4⟩
  split at q
  · rename_i dd cd sl ho
    split at q
    · rename_i C' bm k0 k1 k2 k3 n k5 hm hs
      simp only [Bool.and_eq_true, beq_iff_eq, Bool.not_eq_true'] at q
      obtain ⟨⟨⟨⟨rfl, rfl⟩, hdel⟩, hdct⟩, ht⟩ := q
      obtain ⟨nm, bs, mro, ns, qn, hd, sn, sub, ab, col, del⟩ := cd
      dsimp only at hm hdel hdct
      subst hm hdel hdct
      have hsl : sl = #[k0, k1, k2, k3, some (.builtin "ValueError.__new__"), k5] := by
        obtain ⟨l⟩ := sl
        simp only at hs
        rw [hs]
      subst hsl
      exact ⟨nm, qn, ns, bs, bm, sn, sub, ab, col, dd, k0, k1, k2, k3, k5, ho, ht⟩
    · cases q
  · cases q
structure ExcF (P : Program) (w : World) (K : PySem.W.Frag) (mg : Str → Option Value) (base : Heap) (x : Str) (C : Addr) (fs : List Str) (sp : Sp) : Prop where
  at_ : mg x = some (Value.ref C)
  cls : OexC K C
  ini : ∃ (fI : Addr) (fd : FuncData) (ps : List Str), PySem.W.findIn K (.ref C) "__init__" = some (some (.ref fI)) ∧ PySem.W.typeIn K (.ref fI) = some (.type "function") ∧ L2.Binds K fd ps [] ∧ FnOk P w K mg base (L2.CX P w) 1 fI fd ps sp
def sp2 (C : Addr) (f g : Str) : Sp := fun vs H Q _ => ∃ (a : Addr) (y z : V), vs = [.ref a, y, z] ∧ H a = some (exo a C none) ∧
  ∀ dx, H dx = none → dx ≠ a → Q .non (upd (upd (upd H dx (exd dx [(f, y)])) a (exo a C (some dx))) dx (exd dx [(g, z), (f, y)]))
section
variable {P : Program} {w : World} {K : PySem.W.Frag} {mg : Str → Option Value} {base : Heap} {qual : Str} {params : Arguments} {scope : Scope} {fI : Addr} {fd : FuncData} {C : Addr} {s f g : Str} {p1 p2 p3 p4 p5 p6 p7 p8 : Pos}
theorem init2 (F : FunD K "__init__" qual params [.Assign [.Attribute (.Name s p1) f p2] (.Name f p3) p4, .Assign [.Attribute (.Name s p5) g p6] (.Name g p7) p8] scope [] [] fI fd) (S : FnScope [s, f, g] [s, f, g] scope) (T : OexC K C)
    (hf : PySem.W.findIn K (.ref C) f = some none) (hg : PySem.W.findIn K (.ref C) g = some none)
    (vs : Vis scope s) (vf : Vis scope f) (vg : Vis scope g) (ds : (s == ("__debug__" : Str)) = false := by decide) (df : (f == ("__debug__" : Str)) = false := by decide) (dg : (g == ("__debug__" : Str)) = false := by decide)
    (cs : (s == ("__classdict__" : Str)) = false := by decide) (cf : (f == ("__classdict__" : Str)) = false := by decide) (cg : (g == ("__classdict__" : Str)) = false := by decide) : FnOk P w K mg base (L2.CX P w) 1 fI fd [s, f, g] (sp2 C f g) := by
  refine F.ok (k := 0) S (fun vs H Q E h => ?_) fun cdv A outer s H vs Q E hr h => ?_
  · obtain ⟨a, y, z, rfl, _⟩ := h
    rfl
  · obtain ⟨a, y, z, rfl, ha, q⟩ := h
    refine ⟨_, pss_cons (ps_ost (pe_var (i := 0) rfl vs ds cs) (pe_var (i := 1) rfl vf df cf)) (pss_one (ps_ost (pe_var (i := 0) rfl vs ds cs) (pe_var (i := 2) rfl vg dg cg))), ?_⟩
    refine ⟨y, rfl, .ref a, rfl, a, C, rfl, T, hf, .inl ⟨ha, fun dx hd hn => ?_⟩⟩
    refine ⟨z, rfl, .ref a, rfl, a, C, rfl, T, hg, .inr ⟨dx, [(f, y)], upd_same, ?_, (by show (1 : Nat) ≤ 900; decide), q dx hd hn⟩⟩
    rw [upd_ne hn, upd_same]
end
def sRaise2 (x f g : Str) (m : MA) : MS := fun ρ => match m ρ with
  | .ok ([d1, d2], _) => .exn x [(g, d2), (f, d1)]
  | .ok _ => .stuck
  | .exn c fs => .exn c fs
  | .stuck => .stuck
def sRaise1 (x f : Str) (m : MA) : MS := fun ρ => match m ρ with
  | .ok ([d1], _) => .exn x [(f, d1)]
  | .ok _ => .stuck
  | .exn c fs => .exn c fs
  | .stuck => .stuck
theorem ext_fin {H1 : Hp} {a dx : Addr} {o1 o2 o3 o4 o5 : HO} (ha : H1 a = none) (hd : H1 dx = none) : Ext H1 (upd (del (upd (upd (upd (upd H1 a o1) dx o2) a o3) dx o4) a) dx o5) ∧ ∀ b o, H1 b = some o → (upd (del (upd (upd (upd (upd H1 a o1) dx o2) a o3) dx o4) a) dx o5) b = some o := by
  have key : ∀ b o, H1 b = some o → (upd (del (upd (upd (upd (upd H1 a o1) dx o2) a o3) dx o4) a) dx o5) b = some o := fun b o h => by
    have n1 : b ≠ a := fun z => by rw [z, ha] at h; cases h
    have n2 : b ≠ dx := fun z => by rw [z, hd] at h; cases h
    rw [upd_ne n2, del_ne n1, upd_ne n2, upd_ne n1, upd_ne n2, upd_ne n1]; exact h
  exact ⟨⟨fun b xs h => key b _ h, fun b o u h => key b _ h⟩, key⟩
section
variable {X : Cx} {EW : XK} {rf : List Nat} {k : Nat} {x f g : Str} {C : Addr} {e : Expr} {es : List Expr} {m : MA} {p pos pos' : Pos}
theorem ls_raise2 (F : ExcF X.prog X.w X.K X.mg X.base x C [f, g] (sp2 C f g)) (c : Cok X EW k) (hk : 2 ≤ k) (hg : Gl X x) (ha : LA X EW rf (e :: es) m)
    (hdb : (x == ("__debug__" : Str)) = false := by decide) (he : starEach (e :: es) X.env = (false, eval e X.env) :: starEach es X.env := by rfl) (hpl : (backTo pos (starEach es X.env)).any (·.1) = false := by rfl) :
    LS X EW rf (.Raise (some (.Call (.Name x p) (e :: es) [] pos)) none pos') (sRaise2 x f g m) := by
  obtain ⟨fI, fd, ps, iC, tI, hb, F1⟩ := F.ini
  refine ⟨fun H0 A hA => (ps_raise c.hc c.tk (pmk_oex (dvs := []) (ds := []) F.cls iC tI F1 (c.hr.mono hk) hb .nil passL hg F.at_ (ha.run H0 A hA) hdb he hpl)).imp fun D σ H q => ?_⟩
  obtain ⟨ρ, r, q⟩ := q
  refine ⟨ρ, r, ?_⟩
  unfold sRaise2 at q
  cases em : m ρ with
  | ok pr =>
    obtain ⟨ds, ρ1⟩ := pr
    rw [em] at q
    rcases ds with _ | ⟨d1, _ | ⟨d2, _ | ⟨d3, r3⟩⟩⟩
    · exact False.elim q
    · exact False.elim q
    · refine fun vs H1 r1 x1 rv => ?_
      have rv : RDs X.K X.mg H1 vs [d1, d2] := rv
      obtain ⟨y, z, rfl, ry, rz⟩ : ∃ y z, vs = [y, z] ∧ RD X.K X.mg H1 y d1 ∧ RD X.K X.mg H1 z d2 := by
        cases rv with
        | cons ry rv =>
          cases rv with
          | cons rz rv => cases rv; exact ⟨_, _, rfl, ry, rz⟩
      refine ⟨by show (2 : Nat) ≤ 1000; decide, fun a ha1 => ⟨a, y, z, rfl, upd_same, fun dx hd hn => ⟨rfl, dx, [(g, z), (f, y)], ?_, upd_same, ?_, ?_⟩⟩⟩
      · rw [upd_ne (Ne.symm hn), upd_same]
      · rw [upd_ne hn] at hd; exact hd
      · rw [upd_ne hn] at hd
        obtain ⟨ex, fr⟩ := ext_fin (o1 := exo a C none) (o2 := exd dx [(f, y)]) (o3 := exo a C (some dx)) (o4 := exd dx [(g, z), (f, y)]) (o5 := HO.xd [(g, z), (f, y)]) ha1 hd
        refine q _ _ _ ⟨C, F.at_, rfl, [(g, z), (f, y)], upd_same, rfl, .cons (RD.ext ex rz) (.cons (RD.ext ex ry) .nil)⟩ ⟨fun b o h0 hn' => (r1.fr b o h0 hn').step fun u z => .of (fr b u z), (r1.same fr).tb⟩
    · exact False.elim q
  | exn c fs => rw [em] at q; exact q
  | stuck => rw [em] at q; exact q
end
@[simp] theorem sRaise2_ap (x f g : Str) (m : MA) (ρ : En) : sRaise2 x f g m ρ = (m ρ).bind fun p => match p.1 with
  | [d1, d2] => .exn x [(g, d2), (f, d1)]
  | _ => .stuck := by
  unfold sRaise2
  cases m ρ with
  | ok p =>
    obtain ⟨ds, ρ1⟩ := p
    rw [Res.bind_ok]
    rcases ds with _ | ⟨d1, _ | ⟨d2, _ | ⟨d3, r⟩⟩⟩ <;> rfl
  | exn c fs => rfl
  | stuck => rfl
@[simp] theorem sRaise1_ap (x f : Str) (m : MA) (ρ : En) : sRaise1 x f m ρ = (m ρ).bind fun p => match p.1 with
  | [d1] => .exn x [(f, d1)]
  | _ => .stuck := by
  unfold sRaise1
  cases m ρ with
  | ok p =>
    obtain ⟨ds, ρ1⟩ := p
    rw [Res.bind_ok]
    rcases ds with _ | ⟨d1, _ | ⟨d2, r⟩⟩ <;> rfl
  | exn c fs => rfl
  | stuck => rfl
end ML


namespace ML
open PySem PySem.Spec PyProof.Rows L2
variable [Tabs]
structure Sh (d : D) (w h : Nat) : Prop where
  pu : d.pure = true
  sw : d.py.showable = true
  le : d.py.leavesShort 62 = true
  wt : d.py.weight ≤ w
  dp : d.py.depth ≤ h
structure Shs (ds : List D) (w h : Nat) : Prop where
  pu : pureAll ds = true
  sw : PyData.showableAll (pyAll ds) = true
  le : PyData.leavesShortAll 62 (pyAll ds) = true
  wt : PyData.weightAll (pyAll ds) ≤ w
  dp : PyData.depthAll (pyAll ds) ≤ h
theorem Sh.mono {d : D} {w w' h h' : Nat} (s : Sh d w h) (a : w ≤ w') (b : h ≤ h') : Sh d w' h' := ⟨s.pu, s.sw, s.le, Nat.le_trans s.wt a, Nat.le_trans s.dp b⟩
theorem Shs.mono {d : List D} {w w' h h' : Nat} (s : Shs d w h) (a : w ≤ w') (b : h ≤ h') : Shs d w' h' := ⟨s.pu, s.sw, s.le, Nat.le_trans s.wt a, Nat.le_trans s.dp b⟩
end ML


namespace ML
open PySem PySem.Spec PyProof.Rows L2
variable [Tabs]
def clsDef (s : Stmt) (j : Nat) : Stmt := match s with
  | .ClassDef _ _ _ body _ _ _ _ _ _ _ => body.getD j (.Pass ⟨0, 0, 0, 0⟩)
  | s => s
def excC (K : PySem.W.Frag) (x : Str) (fs : List Str) : Bool := (He.Fa.glo x).ok K && (oexB K (He.ga K x) && (He.eqO (PySem.W.findIn K (.ref (He.ga K x)) "__init__") (some (some (.ref (He.ma K (He.ga K x) "__init__")))) &&
  (decide (PySem.W.typeIn K (.ref (He.ma K (He.ga K x) "__init__")) = some (.type "function")) && fs.all fun f => He.eqO (PySem.W.findIn K (.ref (He.ga K x)) f) (some none))))
structure ExcH (K : PySem.W.Frag) (mg : Str → Option Value) (x : Str) (fs : List Str) (C fI : Addr) : Prop where
  at_ : mg x = some (Value.ref C)
  cls : OexC K C
  ini : PySem.W.findIn K (.ref C) "__init__" = some (some (.ref fI))
  typ : PySem.W.typeIn K (.ref fI) = some (.type "function")
  no : ∀ f ∈ fs, PySem.W.findIn K (.ref C) f = some none
theorem excC_ok {K : PySem.W.Frag} {h : Heap} {mg : Str → Option Value} (X : K.In h) (G : h.Ns mainGlobals mg) {x : Str} {fs : List Str} (c : excC K x fs = true) : ExcH K mg x fs (He.ga K x) (He.ma K (He.ga K x) "__init__") := by
  unfold excC at c
  rw [Bool.and_eq_true, Bool.and_eq_true, Bool.and_eq_true, Bool.and_eq_true] at c
  obtain ⟨c1, c2, c3, c4, c5⟩ := c
  exact ⟨He.glo_ok X G c1, oexB_ok c2, He.eqO_ok c3, of_decide_eq_true c4, fun f hf => He.eqO_ok (List.all_eq_true.mp c5 f hf)⟩
section
variable {P : Program} {w : World} {K : PySem.W.Frag} {mg : Str → Option Value} {base : Heap} {x qual : Str} {params : Arguments} {scope : Scope} {fd : FuncData} {C fI : Addr} {s f g : Str} {p1 p2 p3 p4 p5 p6 p7 p8 : Pos}
theorem excF2 (E : ExcH K mg x [f, g] C fI) (F : FunD K "__init__" qual params [.Assign [.Attribute (.Name s p1) f p2] (.Name f p3) p4, .Assign [.Attribute (.Name s p5) g p6] (.Name g p7) p8] scope [] [] fI fd) (S : FnScope [s, f, g] [s, f, g] scope)
    (hb : L2.Binds K fd [s, f, g] [])
    (vs : Vis scope s) (vf : Vis scope f) (vg : Vis scope g) (ds : (s == ("__debug__" : Str)) = false := by decide) (df : (f == ("__debug__" : Str)) = false := by decide) (dg : (g == ("__debug__" : Str)) = false := by decide)
    (cs : (s == ("__classdict__" : Str)) = false := by decide) (cf : (f == ("__classdict__" : Str)) = false := by decide) (cg : (g == ("__classdict__" : Str)) = false := by decide) : ∃ C, ExcF P w K mg base x C [f, g] (sp2 C f g) :=
  ⟨C, E.at_, E.cls, fI, fd, _, E.ini, E.typ, hb, init2 F S E.cls (E.no f (by simp)) (E.no g (by simp)) vs vf vg ds df dg cs cf cg⟩
end
section
variable {X : Cx} {EW : XK} {rf : List Nat} {k : Nat} {x f g : Str} {e : Expr} {es : List Expr} {m : MA} {p pos pos' : Pos}
theorem ls_raise2' (F : ∃ C, ExcF X.prog X.w X.K X.mg X.base x C [f, g] (sp2 C f g)) (c : Cok X EW k) (hk : 2 ≤ k) (hg : Gl X x) (ha : LA X EW rf (e :: es) m)
    (hdb : (x == ("__debug__" : Str)) = false := by decide) (he : starEach (e :: es) X.env = (false, eval e X.env) :: starEach es X.env := by rfl) (hpl : (backTo pos (starEach es X.env)).any (·.1) = false := by rfl) :
    LS X EW rf (.Raise (some (.Call (.Name x p) (e :: es) [] pos)) none pos') (sRaise2 x f g m) := by
  obtain ⟨C, F⟩ := F
  exact ls_raise2 F c hk hg ha hdb he hpl
end
end ML


namespace ML
open PySem PySem.Spec PyProof.Rows L2
def newA : List Addr → Nat → List Addr
  | [], _ => []
  | a :: r, seen => if Nat.land 1 (Nat.shiftRight seen a) = 1 then newA r seen else a :: newA r (Nat.lor seen (Nat.shiftLeft 1 a))
def bitsA : List Addr → Nat → Nat
  | [], seen => seen
  | a :: r, seen => bitsA r (Nat.lor seen (Nat.shiftLeft 1 a))
def lvA (g : Addr → Option Obj) : Nat → List Addr → Nat → List Addr
  | 0, front, _ => front
  | n + 1, front, seen => front ++ lvA g n (newA (front.flatMap fun a => match g a with
    | some o => He.refsD o
    | none => []) seen) (bitsA (newA (front.flatMap fun a => match g a with
    | some o => He.refsD o
    | none => []) seen) seen)
def asY (g : Addr → Option Obj) (n : Nat) : List Addr := lvA g n [mainGlobals] (Nat.shiftLeft 1 mainGlobals)
def obsY (n : Nat) (fa : List He.Fa) (fn : List He.DefD) (ts : List He.Tab) (tf : List He.Defn) (ex : PySem.W.Frag → Bool) (g : Addr → Option Obj) : He.AlX := (He.obsT fa fn ts (He.frT g (asY g n)), ex (He.frT g (asY g n)) && He.tabsB g tf (He.frT g (asY g n)))
theorem saysY {n : Nat} {fa : List He.Fa} {fn : List He.DefD} {ts : List He.Tab} {tf : List He.Defn} {ex : PySem.W.Frag → Bool} {w : World} {h : Heap} (e : obsY n fa fn ts tf ex h.get? = He.valX fn ts w) : He.SaysX fa fn ts tf ex w h (He.frT h.get? (asY h.get? n)) := by
  have e1 : He.obsT fa fn ts (He.frT h.get? (asY h.get? n)) = He.valT fn ts w := congrArg (fun z : He.AlX => z.1) e
  have e2 : (ex (He.frT h.get? (asY h.get? n)) && He.tabsB h.get? tf (He.frT h.get? (asY h.get? n))) = true := congrArg (fun z : He.AlX => z.2) e
  rw [Bool.and_eq_true] at e2
  have key : ∀ p ∈ tf, PySem.W.codeHdIn (He.frT h.get? (asY h.get? n)) (He.cT (He.frT h.get? (asY h.get? n)) p).1 (He.cT (He.frT h.get? (asY h.get? n)) p).2 = true ∧ ∃ o, h.get? (He.cT (He.frT h.get? (asY h.get? n)) p).2 = some o ∧ He.emptyTab o = true := fun p hp => by
    have h2 := List.all_eq_true.mp e2.2 p hp
    rw [Bool.and_eq_true] at h2
    refine ⟨h2.1, ?_⟩
    have h4 := h2.2
    cases q : h.get? (He.cT (He.frT h.get? (asY h.get? n)) p).2 with
    | none => rw [q] at h4; cases h4
    | some o => rw [q] at h4; exact ⟨o, rfl, h4⟩
  exact ⟨e1, e2.1, fun p hp => (key p hp).1, fun p hp => by
    obtain ⟨_, o, q, z⟩ := key p hp
    exact He.frT_none q z, fun p hp => by
    obtain ⟨_, o, q, z⟩ := key p hp
    rw [q, He.emptyTab_eq z]⟩
def hookY (n : Nat) (fa : List He.Fa) (fn : List He.DefD) (ts : List He.Tab) (tf : List He.Defn) (ex : PySem.W.Frag → Bool) : PySem.W.Hook where
  α := He.AlX
  obs := fun s => obsY n fa fn ts tf ex s.heap.get?
  val := fun w => He.valX fn ts w
  says := fun w h => ∃ K : PySem.W.Frag, K.In h ∧ He.SaysX fa fn ts tf ex w h K
  of := fun _ _ e => ⟨_, He.frT_in, saysY e⟩
  keeps := fun _ _ _ ⟨K, hK, c⟩ k => ⟨K, PySem.W.Frag.In.keeps hK k, ⟨c.t, c.more, c.hd, c.out, fun p hp => k _ _ (c.empty p hp)⟩⟩
theorem obsY_eq {n : Nat} {fa : List He.Fa} {fn : List He.DefD} {ts : List He.Tab} {tf : List He.Defn} {ex : PySem.W.Frag → Bool} {g : Addr → Option Obj} {s : Shared} (h : ∀ a, g a = s.heap.get? a) : obsY n fa fn ts tf ex g = (hookY n fa fn ts tf ex).obs s := by
  have e : g = s.heap.get? := funext h
  rw [e] <;> rfl
end ML


namespace ML
open PySem PySem.Spec PyProof.Rows L2
def excCB (K : PySem.W.Frag) (D : Addr) : Bool := decide (PySem.W.findIn K (.ref D) "__getattribute__" = some (some (.builtin "BaseException.__getattribute__"))) && (decide (PySem.W.findIn K (.ref D) "__getattr__" = some none) && (decide (PySem.W.subIn K (.ref D) (.type "BaseException") = some true) && (PySem.W.hasDictIn K D && (decide (PySem.W.findIn K (.ref D) "__class__" = some (some (.builtin "object.__class__"))) &&
  (decide (PySem.W.specialIn K (.builtin "object.__class__") "__get__" = some (some (.builtin "getset_descriptor.__get__"))) && (decide (PySem.W.takesIn K (.builtin "object.__class__") = some true) && decide (PySem.W.mroIn K D (.type "object") = some true)))))))
/-- x: the class raised; y: the one that the clause names; fs: its fields; own, tys: what isinstance says of it -/
def tryC (K : PySem.W.Frag) (x y : Str) (fs : List Str) (own : List (Str × Bool)) (tys : List (String × Bool)) : Bool :=
  (He.Fa.glo x).ok K && ((He.Fa.glo y).ok K && (excCB K (He.ga K x) && (xfB K (He.ga K x) && (decide (PySem.W.exmOne K (.ref (He.ga K x)) (.ref (He.ga K y)) = some true) && ((fs.all fun f => He.eqO (PySem.W.findIn K (.ref (He.ga K x)) f) (some none)) &&
    ((own.all fun q => (He.Fa.glo q.1).ok K && decide (PySem.W.kitOne K (.ref (He.ga K x)) (.ref (He.ga K q.1)) = some q.2)) && tys.all fun q => decide (PySem.W.kitOne K (.ref (He.ga K x)) (.type q.1) = some q.2)))))))
def clsC (K : PySem.W.Frag) (c : Str) (fs ms : List Str) : Bool := (He.Fa.glo c).ok K && ((PySem.W.plainGet K (He.ga K c) Str.empty && (PySem.W.hasDictIn K (He.ga K c) && (PySem.W.plainOver K (He.ga K c) && He.eqO (PySem.W.findIn K (.ref (He.ga K c)) "__setattr__") (some (some (.builtin "object.__setattr__")))))) &&
  ((PySem.W.makesIn K (He.ga K c) && (He.eqO (PySem.W.findIn K (.ref (He.ga K c)) "__init__") (some (some (.ref (He.ma K (He.ga K c) "__init__")))) && (PySem.W.isFn K (.ref (He.ma K (He.ga K c) "__init__")) && PySem.W.keepIn K (.ref (He.ga K c))))) &&
  ((fs.all fun f => He.eqO (PySem.W.findIn K (.ref (He.ga K c)) f) (some none)) && (ms.all fun m => He.eqO (PySem.W.findIn K (.ref (He.ga K c)) m) (some (some (.ref (He.ma K (He.ga K c) m)))) && (PySem.W.isFn K (.ref (He.ma K (He.ga K c) m)) && PySem.W.keepIn K (.ref (He.ma K (He.ga K c) m)))))))
end ML
namespace LAW
open PySem PySem.Spec PyProof.Rows L2 ML
def top (i : Nat) : Stmt := PySem.Challenge.pw_wholenet_k05_wrong_texts_refused.main.body.getD i (.Pass ⟨0, 0, 0, 0⟩)
abbrev s_clamped : Stmt := top 6
abbrev s_within : Stmt := top 7
abbrev s_places : Stmt := top 17
abbrev s_gives : Stmt := top 18
abbrev s_last_length : Stmt := top 19
abbrev s_is_allowed : Stmt := top 26
abbrev s_words_of : Stmt := top 27
abbrev s_is_number : Stmt := top 28
abbrev s_is_count_right : Stmt := top 29
abbrev s_number_words : Stmt := top 30
abbrev s_is_in_range : Stmt := top 31
abbrev s_numbers_of : Stmt := top 32
abbrev s_parse : Stmt := top 35
abbrev s__law_cell : Stmt := top 37
abbrev s__law_digits : Stmt := top 38
abbrev s__law_draw : Stmt := top 39
abbrev s__law_read : Stmt := top 40
abbrev s__law_places : Stmt := top 41
abbrev s__law_counts : Stmt := top 42
abbrev s__law_numbers : Stmt := top 43
abbrev s__law_rows : Stmt := top 44
abbrev s__law_kernels : Stmt := top 45
abbrev s__law_ahead : Stmt := top 46
abbrev s__law_ends : Stmt := top 47
abbrev s__law_parts : Stmt := top 48
abbrev s_law : Stmt := top 49
abbrev s_Part_add_layer : Stmt := clsDef (top 33) 1
abbrev s_Reader_read_line : Stmt := clsDef (top 34) 1
abbrev s_Reader_read_first : Stmt := clsDef (top 34) 2
abbrev s_Reader_is_own : Stmt := clsDef (top 34) 3
abbrev s_Reader_is_in_place : Stmt := clsDef (top 34) 4
abbrev s_Reader_is_full : Stmt := clsDef (top 34) 5
abbrev s_Reader_add_line : Stmt := clsDef (top 34) 6
abbrev s_Reader_add_row : Stmt := clsDef (top 34) 7
abbrev s_Reader_add_plain : Stmt := clsDef (top 34) 8
abbrev s_Reader_end_rows : Stmt := clsDef (top 34) 9
abbrev s_Reader_end_branches : Stmt := clsDef (top 34) 10
abbrev s_Reader_ended : Stmt := clsDef (top 34) 11
abbrev s_Part___init__ : Stmt := clsDef (top 33) 0
abbrev s_Reader___init__ : Stmt := clsDef (top 34) 0
abbrev s_init_BadNet : Stmt := clsDef (top 2) 0
abbrev s_init_Part : Stmt := clsDef (top 33) 0
abbrev s_init_Reader : Stmt := clsDef (top 34) 0
def d_clamped : He.DefD := ⟨("clamped", none), "clamped", "clamped", defArgs s_clamped, defBody s_clamped, defScope s_clamped, [], []⟩
def d_within : He.DefD := ⟨("within", none), "within", "within", defArgs s_within, defBody s_within, defScope s_within, [], []⟩
def d_places : He.DefD := ⟨("places", none), "places", "places", defArgs s_places, defBody s_places, defScope s_places, [], []⟩
def d_gives : He.DefD := ⟨("gives", none), "gives", "gives", defArgs s_gives, defBody s_gives, defScope s_gives, [], []⟩
def d_last_length : He.DefD := ⟨("last_length", none), "last_length", "last_length", defArgs s_last_length, defBody s_last_length, defScope s_last_length, [], []⟩
def d_is_allowed : He.DefD := ⟨("is_allowed", none), "is_allowed", "is_allowed", defArgs s_is_allowed, defBody s_is_allowed, defScope s_is_allowed, [], []⟩
def d_words_of : He.DefD := ⟨("words_of", none), "words_of", "words_of", defArgs s_words_of, defBody s_words_of, defScope s_words_of, [], []⟩
def d_is_number : He.DefD := ⟨("is_number", none), "is_number", "is_number", defArgs s_is_number, defBody s_is_number, defScope s_is_number, [], []⟩
def d_is_count_right : He.DefD := ⟨("is_count_right", none), "is_count_right", "is_count_right", defArgs s_is_count_right, defBody s_is_count_right, defScope s_is_count_right, [], []⟩
def d_number_words : He.DefD := ⟨("number_words", none), "number_words", "number_words", defArgs s_number_words, defBody s_number_words, defScope s_number_words, [], []⟩
def d_is_in_range : He.DefD := ⟨("is_in_range", none), "is_in_range", "is_in_range", defArgs s_is_in_range, defBody s_is_in_range, defScope s_is_in_range, [], []⟩
def d_numbers_of : He.DefD := ⟨("numbers_of", none), "numbers_of", "numbers_of", defArgs s_numbers_of, defBody s_numbers_of, defScope s_numbers_of, [], []⟩
def d_parse : He.DefD := ⟨("parse", none), "parse", "parse", defArgs s_parse, defBody s_parse, defScope s_parse, [], []⟩
def d__law_cell : He.DefD := ⟨("_law_cell", none), "_law_cell", "_law_cell", defArgs s__law_cell, defBody s__law_cell, defScope s__law_cell, [], []⟩
def d__law_digits : He.DefD := ⟨("_law_digits", none), "_law_digits", "_law_digits", defArgs s__law_digits, defBody s__law_digits, defScope s__law_digits, [], []⟩
def d__law_draw : He.DefD := ⟨("_law_draw", none), "_law_draw", "_law_draw", defArgs s__law_draw, defBody s__law_draw, defScope s__law_draw, [], []⟩
def d__law_read : He.DefD := ⟨("_law_read", none), "_law_read", "_law_read", defArgs s__law_read, defBody s__law_read, defScope s__law_read, [], []⟩
def d__law_places : He.DefD := ⟨("_law_places", none), "_law_places", "_law_places", defArgs s__law_places, defBody s__law_places, defScope s__law_places, [], []⟩
def d__law_counts : He.DefD := ⟨("_law_counts", none), "_law_counts", "_law_counts", defArgs s__law_counts, defBody s__law_counts, defScope s__law_counts, [], []⟩
def d__law_numbers : He.DefD := ⟨("_law_numbers", none), "_law_numbers", "_law_numbers", defArgs s__law_numbers, defBody s__law_numbers, defScope s__law_numbers, [], []⟩
def d__law_rows : He.DefD := ⟨("_law_rows", none), "_law_rows", "_law_rows", defArgs s__law_rows, defBody s__law_rows, defScope s__law_rows, [], []⟩
def d__law_kernels : He.DefD := ⟨("_law_kernels", none), "_law_kernels", "_law_kernels", defArgs s__law_kernels, defBody s__law_kernels, defScope s__law_kernels, [], []⟩
def d__law_ahead : He.DefD := ⟨("_law_ahead", none), "_law_ahead", "_law_ahead", defArgs s__law_ahead, defBody s__law_ahead, defScope s__law_ahead, [], []⟩
def d__law_ends : He.DefD := ⟨("_law_ends", none), "_law_ends", "_law_ends", defArgs s__law_ends, defBody s__law_ends, defScope s__law_ends, [], []⟩
def d__law_parts : He.DefD := ⟨("_law_parts", none), "_law_parts", "_law_parts", defArgs s__law_parts, defBody s__law_parts, defScope s__law_parts, [], []⟩
def d_law : He.DefD := ⟨("law", none), "law", "law", defArgs s_law, defBody s_law, defScope s_law, [], []⟩
def d_Part_add_layer : He.DefD := ⟨("Part", some "add_layer"), "add_layer", "Part.add_layer", defArgs s_Part_add_layer, defBody s_Part_add_layer, defScope s_Part_add_layer, [], []⟩
def d_Reader_read_line : He.DefD := ⟨("Reader", some "read_line"), "read_line", "Reader.read_line", defArgs s_Reader_read_line, defBody s_Reader_read_line, defScope s_Reader_read_line, [], []⟩
def d_Reader_read_first : He.DefD := ⟨("Reader", some "read_first"), "read_first", "Reader.read_first", defArgs s_Reader_read_first, defBody s_Reader_read_first, defScope s_Reader_read_first, [], []⟩
def d_Reader_is_own : He.DefD := ⟨("Reader", some "is_own"), "is_own", "Reader.is_own", defArgs s_Reader_is_own, defBody s_Reader_is_own, defScope s_Reader_is_own, [], []⟩
def d_Reader_is_in_place : He.DefD := ⟨("Reader", some "is_in_place"), "is_in_place", "Reader.is_in_place", defArgs s_Reader_is_in_place, defBody s_Reader_is_in_place, defScope s_Reader_is_in_place, [], []⟩
def d_Reader_is_full : He.DefD := ⟨("Reader", some "is_full"), "is_full", "Reader.is_full", defArgs s_Reader_is_full, defBody s_Reader_is_full, defScope s_Reader_is_full, [], []⟩
def d_Reader_add_line : He.DefD := ⟨("Reader", some "add_line"), "add_line", "Reader.add_line", defArgs s_Reader_add_line, defBody s_Reader_add_line, defScope s_Reader_add_line, [], []⟩
def d_Reader_add_row : He.DefD := ⟨("Reader", some "add_row"), "add_row", "Reader.add_row", defArgs s_Reader_add_row, defBody s_Reader_add_row, defScope s_Reader_add_row, [], []⟩
def d_Reader_add_plain : He.DefD := ⟨("Reader", some "add_plain"), "add_plain", "Reader.add_plain", defArgs s_Reader_add_plain, defBody s_Reader_add_plain, defScope s_Reader_add_plain, [], []⟩
def d_Reader_end_rows : He.DefD := ⟨("Reader", some "end_rows"), "end_rows", "Reader.end_rows", defArgs s_Reader_end_rows, defBody s_Reader_end_rows, defScope s_Reader_end_rows, [], []⟩
def d_Reader_end_branches : He.DefD := ⟨("Reader", some "end_branches"), "end_branches", "Reader.end_branches", defArgs s_Reader_end_branches, defBody s_Reader_end_branches, defScope s_Reader_end_branches, [], []⟩
def d_Reader_ended : He.DefD := ⟨("Reader", some "ended"), "ended", "Reader.ended", defArgs s_Reader_ended, defBody s_Reader_ended, defScope s_Reader_ended, [], []⟩
def d_init_Part : He.DefD := ⟨("Part", some "__init__"), "__init__", "Part.__init__", defArgs s_init_Part, defBody s_init_Part, defScope s_init_Part, [], []⟩
def d_init_Reader : He.DefD := ⟨("Reader", some "__init__"), "__init__", "Reader.__init__", defArgs s_init_Reader, defBody s_init_Reader, defScope s_init_Reader, [], []⟩
def d_init_BadNet : He.DefD := ⟨("BadNet", some "__init__"), "__init__", "BadNet.__init__", defArgs s_init_BadNet, defBody s_init_BadNet, defScope s_init_BadNet, [], []⟩
def fnD : List He.DefD := [d_clamped, d_within, d_places, d_gives, d_last_length, d_is_allowed, d_words_of, d_is_number, d_is_count_right, d_number_words, d_is_in_range, d_numbers_of, d_parse, d__law_cell, d__law_digits, d__law_draw, d__law_read, d__law_places, d__law_counts, d__law_numbers, d__law_rows, d__law_kernels, d__law_ahead, d__law_ends, d__law_parts, d_law, d_Part_add_layer, d_Reader_read_line, d_Reader_read_first, d_Reader_is_own, d_Reader_is_in_place, d_Reader_is_full, d_Reader_add_line, d_Reader_add_row, d_Reader_add_plain, d_Reader_end_rows, d_Reader_end_branches, d_Reader_ended, d_init_BadNet, d_init_Part, d_init_Reader]
def faD : List He.Fa := [.glo "clamped", .glo "within", .glo "places", .glo "gives", .glo "last_length", .glo "is_allowed", .glo "words_of", .glo "is_number", .glo "is_count_right", .glo "number_words", .glo "is_in_range", .glo "numbers_of", .glo "parse", .glo "_law_cell", .glo "_law_digits", .glo "_law_draw", .glo "_law_read", .glo "_law_places", .glo "_law_counts", .glo "_law_numbers", .glo "_law_rows", .glo "_law_kernels", .glo "_law_ahead", .glo "_law_ends", .glo "_law_parts", .glo "law", .free "ValueError", .free "all", .free "bool", .free "enumerate", .free "int", .free "isinstance", .free "len", .free "list", .free "max", .free "ord", .free "range", .free "tuple", .int "MOST_CHARACTERS" (60000), .int "MOST_DIGITS" (9), .int "MOST_INPUTS" (16), .int "MOST_KERNELS" (4), .int "MOST_LAYERS" (12), .int "MOST_LENGTH" (64), .int "MOST_ROWS" (16), .int "MOST_SIGNAL" (16777216), .int "MOST_STRIDE" (64), .int "MOST_WEIGHT" (1048576), .int "PERCENT" (37)]
def tabD_ : List He.Tab := [((fun K => He.ga K "ROW_WORDS"), ["dense", "conv"]), ((fun K => He.ga K "WORDS"), ["net", "dense", "row", "conv", "kernel", "relu", "clamp", "max", "mean", "sum", "with", "fork", "end", "done"])]
def chkD (K : PySem.W.Frag) : Bool := (tupC K "KINDS" [.str "dense", .str "conv", .str "relu", .str "clamp", .str "max", .str "mean", .str "sum", .str "fork"] && (tupC K "MEAN_SIZES" [.int (1), .int (2), .int (4), .int (8), .int (16), .int (32), .int (64)] && (tabC K "ROW_WORDS" [("dense", .str "row"), ("conv", .str "kernel")] && (tabC K "WORDS" [("net", .int (2)), ("dense", .int (1)), ("row", .int (4)), ("conv", .int (2)), ("kernel", .int (4)), ("relu", .int (1)), ("clamp", .int (3)), ("max", .int (2)), ("mean", .int (2)), ("sum", .int (1)), ("with", .int (1)), ("fork", .int (1)), ("end", .int (1)), ("done", .int (1))] && (excC K "BadNet" ["line", "reason"] && (tryC K "BadNet" "NetError" ["line", "reason"] [("BadNet", true)] [("ValueError", true)] && (clsC K "Part" ["inputs", "layers", "length"] ["add_layer"] && (clsC K "Reader" ["parts", "branching", "head", "rows", "biases", "row_line", "is_done"] ["read_line", "read_first", "is_own", "is_in_place", "is_full", "add_line", "add_row", "add_plain", "end_rows", "end_branches", "ended"] && true))))))))
abbrev RR : PySem.W.OpenRow := PySem.W.OpenLaw.row PySem.Challenge.rw_wholenet_k05_wrong_texts_refused
def tfD : List He.Defn := [("parse", none)]
abbrev hk : PySem.W.Hook := ML.hookY 4 faD fnD tabD_ tfD chkD
def ob (s : PySem.W.SharedT) : He.AlX := ML.obsY 4 faD fnD tabD_ tfD chkD (HandSHeadRun.getT s)
theorem ob_eq (s : PySem.W.SharedT) : ob s = hk.obs s.abs := ML.obsY_eq (HandSHeadRun.getT_eq s)
def looseN : List PySem.Str := (["NetError", "BadNet", "MOST_WEIGHT", "MOST_SIGNAL", "clamped", "within", "MOST_INPUTS", "MOST_LAYERS", "MOST_LENGTH", "MOST_ROWS", "MOST_KERNELS", "MOST_STRIDE", "MEAN_SIZES", "KINDS", "places", "gives", "last_length", "MOST_CHARACTERS", "MOST_DIGITS", "PERCENT"] : List PySem.Str) ++ (["WORDS", "ROW_WORDS", "is_allowed", "words_of", "is_number", "is_count_right", "number_words", "is_in_range", "numbers_of", "Part", "Reader", "parse", "_law_cell", "_law_digits", "_law_draw", "_law_read", "_law_places", "_law_counts", "_law_numbers", "_law_rows"] : List PySem.Str) ++ (["_law_kernels", "_law_ahead", "_law_ends", "_law_parts"] : List PySem.Str)
open HandSHeadRun PySem.W PySem.Calls in
theorem okH : (chainsOk (PySem.W.view RR.prog [49]) && opensWell RR.prog && (frees RR.toRowW && RR.within.isEmpty)) = true := by decide +kernel
theorem map2 {α β γ : Type} {x : Option α} {f : α → β} {g : α → γ} {b : β} {c : γ} (h1 : x.map f = some b) (h2 : x.map g = some c) : x.map (fun s => (f s, g s)) = some (b, c) := by
  cases x with
  | none => cases h1
  | some s =>
    have e1 : f s = b := Option.some.inj h1
    have e2 : g s = c := Option.some.inj h2
    show some (f s, g s) = _
    rw [e1, e2]
theorem mapP {α β γ : Type} {x : Option α} {f : α → β × γ} {p : β × γ} (h1 : x.map (fun s => (f s).1) = some p.1) (h2 : x.map (fun s => (f s).2) = some p.2) : x.map f = some p := by
  cases x with
  | none => cases h1
  | some s =>
    have e1 : (f s).1 = p.1 := Option.some.inj h1
    have e2 : (f s).2 = p.2 := Option.some.inj h2
    exact congrArg some (Prod.ext e1 e2)
open HandSHeadRun PySem.W PySem.Calls in
set_option maxHeartbeats 0 in
theorem run_f1 (w : World) (os : OsState) : (endF (stepQ (denQ tabQ) RR.prog (w.withFollow "special-get-raises" false)) 12000 RR.prog (w.withFollow "special-get-raises" false) os).map (fun s => looksF RR.prog (boot_heap (w.withFollow "special-get-raises" false).params) s.abs) = some true := by kernel_rfl
open HandSHeadRun PySem.W PySem.Calls in
set_option maxHeartbeats 0 in
theorem run_f2 (w : World) (os : OsState) : (endF (stepQ (denQ tabQ) RR.prog (w.withFollow "special-get-raises" false)) 12000 RR.prog (w.withFollow "special-get-raises" false) os).map (fun s => seenQ (PySem.W.view RR.prog [49]) looseN (importedModules RR.prog.main.body) (fun s => xlAt (PySem.W.view RR.prog [49]) [] s && recOk RR.toRowW.records s) s.abs) = some (openGood (PySem.W.view RR.prog [49]) looseN) := by kernel_rfl
open HandSHeadRun PySem.W PySem.Calls in
set_option maxHeartbeats 0 in
theorem run_f3a (w : World) (os : OsState) : (endF (stepQ (denQ tabQ) RR.prog (w.withFollow "special-get-raises" false)) 12000 RR.prog (w.withFollow "special-get-raises" false) os).map (fun s => (ob s).1) = some (He.valX fnD tabD_ (w.withFollow "special-get-raises" false)).1 := by kernel_rfl
open HandSHeadRun PySem.W PySem.Calls in
set_option maxHeartbeats 0 in
theorem run_f3b (w : World) (os : OsState) : (endF (stepQ (denQ tabQ) RR.prog (w.withFollow "special-get-raises" false)) 12000 RR.prog (w.withFollow "special-get-raises" false) os).map (fun s => (ob s).2) = some (He.valX fnD tabD_ (w.withFollow "special-get-raises" false)).2 := by kernel_rfl
open HandSHeadRun PySem.W PySem.Calls in
theorem run_f3 (w : World) (os : OsState) : (endF (stepQ (denQ tabQ) RR.prog (w.withFollow "special-get-raises" false)) 12000 RR.prog (w.withFollow "special-get-raises" false) os).map (fun s => ob s) = some (hk.val (w.withFollow "special-get-raises" false)) := mapP (p := (He.valX fnD tabD_ (w.withFollow "special-get-raises" false))) (run_f3a w os) (run_f3b w os)
theorem run_f (w : World) : HandSHeadRun.RunEq RR (PySem.W.view RR.prog [49]) hk ob 12000 looseN (w.withFollow "special-get-raises" false) := fun os => map2 (run_f1 w os) (map2 (run_f2 w os) (run_f3 w os))
open HandSHeadRun PySem.W PySem.Calls in
set_option maxHeartbeats 0 in
theorem run_t1 (w : World) (os : OsState) : (endF (stepQ (denQ tabQ) RR.prog (w.withFollow "special-get-raises" true)) 12000 RR.prog (w.withFollow "special-get-raises" true) os).map (fun s => looksF RR.prog (boot_heap (w.withFollow "special-get-raises" true).params) s.abs) = some true := by kernel_rfl
open HandSHeadRun PySem.W PySem.Calls in
set_option maxHeartbeats 0 in
theorem run_t2 (w : World) (os : OsState) : (endF (stepQ (denQ tabQ) RR.prog (w.withFollow "special-get-raises" true)) 12000 RR.prog (w.withFollow "special-get-raises" true) os).map (fun s => seenQ (PySem.W.view RR.prog [49]) looseN (importedModules RR.prog.main.body) (fun s => xlAt (PySem.W.view RR.prog [49]) [] s && recOk RR.toRowW.records s) s.abs) = some (openGood (PySem.W.view RR.prog [49]) looseN) := by kernel_rfl
open HandSHeadRun PySem.W PySem.Calls in
set_option maxHeartbeats 0 in
theorem run_t3a (w : World) (os : OsState) : (endF (stepQ (denQ tabQ) RR.prog (w.withFollow "special-get-raises" true)) 12000 RR.prog (w.withFollow "special-get-raises" true) os).map (fun s => (ob s).1) = some (He.valX fnD tabD_ (w.withFollow "special-get-raises" true)).1 := by kernel_rfl
open HandSHeadRun PySem.W PySem.Calls in
set_option maxHeartbeats 0 in
theorem run_t3b (w : World) (os : OsState) : (endF (stepQ (denQ tabQ) RR.prog (w.withFollow "special-get-raises" true)) 12000 RR.prog (w.withFollow "special-get-raises" true) os).map (fun s => (ob s).2) = some (He.valX fnD tabD_ (w.withFollow "special-get-raises" true)).2 := by kernel_rfl
open HandSHeadRun PySem.W PySem.Calls in
theorem run_t3 (w : World) (os : OsState) : (endF (stepQ (denQ tabQ) RR.prog (w.withFollow "special-get-raises" true)) 12000 RR.prog (w.withFollow "special-get-raises" true) os).map (fun s => ob s) = some (hk.val (w.withFollow "special-get-raises" true)) := mapP (p := (He.valX fnD tabD_ (w.withFollow "special-get-raises" true))) (run_t3a w os) (run_t3b w os)
theorem run_t (w : World) : HandSHeadRun.RunEq RR (PySem.W.view RR.prog [49]) hk ob 12000 looseN (w.withFollow "special-get-raises" true) := fun os => map2 (run_t1 w os) (map2 (run_t2 w os) (run_t3 w os))
theorem run (w : World) : HandSHeadRun.RunEq RR (PySem.W.view RR.prog [49]) hk ob 12000 looseN w :=
  PySem.W.byRow2 "special-get-raises" (P := fun w => HandSHeadRun.RunEq RR (PySem.W.view RR.prog [49]) hk ob 12000 looseN w) run_f run_t w

end LAW
namespace ML
open PySem PySem.Spec PyProof.Rows L2
variable [Tabs]
section
variable {X : Cx} {EW : XK} {rf : List Nat}
def eSumV (i : Nat) : ME := fun ρ => match slotO ρ i with
  | some ds => (match allInts ds with
    | some ns => .ok (.int ns.sum, ρ)
    | none => .stuck)
  | none => eB sumD (aCons (eVar i) aNil) ρ
end

@[simp] theorem eSumV_own (i : Nat) (ns : List Int) {ρ : En} (h : getO ρ[i]? = some (ns.map D.int)) : eSumV i ρ = .ok (.int ns.sum, ρ) := by
  unfold eSumV
  rw [slotO_ap, h]
  simp only
  rw [allInts_map]
end ML


namespace ML
open PySem PySem.Spec PyProof.Rows L2
variable [Tabs]
def comp2Loop (g : MG) (vs : List Nat) (mi1 : MA) (g1 : MG) (vs1 : List Nat) (elt : ME) : List D → List D → En → Res (List D × En)
  | [], acc, ρ => .ok (acc, ρ)
  | d :: ds, acc, ρ => match g d (wipeE ρ vs) with
    | .ok ρ1 => (match mi1 ρ1 with
      | .ok (es, ρ2) => (match compLoop g1 vs1 bYes elt es acc ρ2 with
        | .ok (acc', ρ3) => comp2Loop g vs mi1 g1 vs1 elt ds acc' (wipeE ρ3 vs)
        | _ => .stuck)
      | _ => .stuck)
    | _ => .stuck
def oComp2 (mi : MA) (g : MG) (vs : List Nat) (mi1 : MA) (g1 : MG) (vs1 : List Nat) (elt : ME) : MA := fun ρ => match mi ρ with
  | .ok (ds, ρ1) => comp2Loop g vs mi1 g1 vs1 elt ds [] ρ1
  | .exn c fs => .exn c fs
  | .stuck => .stuck
section
variable {X : Cx} {EW : XK} {rf : List Nat}
end
@[simp] theorem oComp2_ap (mi : MA) (g : MG) (vs : List Nat) (mi1 : MA) (g1 : MG) (vs1 : List Nat) (e : ME) (ρ : En) : oComp2 mi g vs mi1 g1 vs1 e ρ = (mi ρ).bind fun p => comp2Loop g vs mi1 g1 vs1 e p.1 [] p.2 := by
  unfold oComp2
  cases h : mi ρ with
  | ok p => obtain ⟨a, b⟩ := p; rfl
  | exn c fs => rfl
  | stuck => rfl
end ML


namespace ML
open PySem PySem.Spec PyProof.Rows L2
variable [Tabs]
section
variable {X : Cx} {EW : XK} {rf : List Nat}
def idxEnd (d e : D) : Res D := match d, e with
  | .tup ds, .int k => (match allInts ds with
    | some ns => if k ∈ ns then .ok (.int (ns.idxOf k : Nat)) else .stuck
    | none => .stuck)
  | _, _ => .stuck
def eIdx (mo me : ME) : ME := fun ρ => match mo ρ with
  | .ok (.tup ds, ρ1) => mLast me (idxEnd (.tup ds)) ρ1
  | .exn c fs => .exn c fs
  | _ => .stuck
end
section
set_option maxHeartbeats 1000000 in
theorem meets_enum1 {v : Value} {o : Obj} {H : Heap → Prop} (B : Begins v o H) :
    Meets (Builtin.«enumerate.__new__» ⟨[.type "enumerate", v], []⟩) (fun _ R s => H s.heap ∧
      R (.ok (.ret (.ref (s.heap.push o).objs.size))) { s with heap := (s.heap.push o).push { cls := .type "enumerate", data := .fields #[.none, .bool false, .ref s.heap.objs.size, rawInt 0, .none, .none] } }) :=
  .of_wp fun prog w A R s h => by
    obtain ⟨hp, g, d, tk, os⟩ := s; obtain ⟨h1, h⟩ := h
    have hsub := sub_enumerate
    have q1 : ∀ {A' : Around} {E : Value → Shared → Prop} {Q : Value → Shared → Prop}, Q (.ref hp.objs.size) ⟨hp.push o, g, d, tk, os⟩ → wpAny (model prog w) A' (pyIter v) Q E ⟨hp, g, d, tk, os⟩ :=
      fun q => B.iter prog w _ _ ⟨hp, g, d, tk, os⟩ _ h1 q
    wp_walk using q1
    refine wpAny_stack_any fun st => wpAny_pure ?_
    split
    · rename_i c _ _ _ _ _
      cases (c == Value.type "enumerate")
      · wp_walk using q1
        exact ⟨_, rfl, h⟩
      · wp_walk using q1
        exact ⟨_, rfl, h⟩
    · wp_walk using q1
      exact ⟨_, rfl, h⟩
theorem enum_first {prog : Program} {w : World} {A : Around} {E : Value → Shared → Prop} {s : Shared} {v : Value} {o : Obj} {H : Heap → Prop} {Q : Value → Shared → Prop} (B : Begins v o H) (h1 : H s.heap)
    (h : ∀ h', IsEnum h' (s.heap.objs.size + 1) s.heap.objs.size 0 .none → h'.get? s.heap.objs.size = some o → (∀ b o, s.heap.get? b = some o → h'.get? b = some o) → Q (.ref (s.heap.objs.size + 1)) { s with heap := h' }) :
    wpAny (model prog w) A (call (.type "enumerate") [v]) Q E s := by
  refine callType_new F.called_enumerate (by decide) (F.typeCall_enumerate_1 _) (F.newCall_enumerate_1 _) (fun obj => F.args_object_init_2 obj _) F.entry_enumerate_new (meets_enum1 B) ⟨h1, ?_⟩
  have hz : (s.heap.push o).objs.size = s.heap.objs.size + 1 := Heap.size_push ..
  have he := Heap.get?_push_size (s.heap.push o) (o := { cls := .type "enumerate", data := .fields #[.none, .bool false, .ref s.heap.objs.size, rawInt 0, .none, .none] }) rfl
  show _ ∧ _
  rw [hz] at he ⊢
  exact ⟨⟨_, he, rfl⟩, h _ he (Heap.get?_push_of_some _ (Heap.get?_push_size _ B.free)) fun b o x => Heap.get?_push_of_some _ (Heap.get?_push_of_some _ x)⟩
end
def IteM (k : Bool) (K : PySem.W.Frag) (a : Addr) : It :=
  ⟨fun i H => ∃ (xs : List V) (x : V), sqK k K H a xs ∧ xs[i]? = some x,
    fun i H v H' => ∃ T o x, v = .ref T ∧ H T = none ∧ o.dict = none ∧ H' = upd H T (.frz o (.tup [.int (i : Nat), x])) ∧ ∀ xs, sqK k K H a xs → xs[i]? = some x,
    fun i H => ∃ xs : List V, sqK k K H a xs ∧ xs.length = i⟩
theorem turn_enumM {P : Program} {w : World} {K : PySem.W.Frag} {elts : List Expr} {kk : Nat} {tpos : Pos} (k : Bool) (a e it : Addr) (hai : a ≠ it) (hae : a ≠ e) :
    Turn P w K (.Tuple elts kk tpos) (IteM k K a) [e, it] e (fun i h => (∃ old, IsEnum h e it ((i : Nat) : Int) old) ∧ itK k h it a i ∧ e ≠ it) where
  mem := by simp
  obj := fun i h st b hb => by
    obtain ⟨⟨old, he⟩, hi, _⟩ := st
    have e' : b = e ∨ b = it := by simpa using hb
    rcases e' with z | z
    · rw [z]; exact ⟨_, he, fun v q => nomatch q⟩
    · rw [z]; exact itK_obj hi
  keep := fun i h h' st kp => let ⟨⟨old, he⟩, hi, hne⟩ := st; ⟨⟨old, kp e (by simp) _ he⟩, itK_at hi fun o q => kp it (by simp) o q, hne⟩
  item := by
    intro X hP hw hK hc i pins s σ H E I hf st hg
    subst hP hw hK
    obtain ⟨⟨old, he⟩, hit, hne⟩ := st
    obtain ⟨xs, x, hq, hx⟩ := hg
    obtain ⟨its, rv, p, _⟩ := obK_of k I hq
    obtain ⟨u, hu, ru⟩ := rv.get hx
    have hel : e < s.heap.objs.size := Heap.lt_size he
    have hil : it < s.heap.objs.size := by obtain ⟨_, q, _⟩ := itK_obj hit; exact Heap.lt_size q
    have lt : i < its.toArray.size := by simpa using (List.getElem?_eq_some_iff.mp hu).1
    refine wpAny_pyNext_enum_itemD (drK (A := X.A.in1) (I.ok.hd hc) k it a hai its.toArray) he ⟨hit, p⟩ lt hne (by simp [hne, Ne.symm hae]) fun x' h' tk hx' ho hst' hT hsz hk => ?_
    have ex : x' = u := by
      have e1 : its.toArray[i]? = some x' := hx'
      rw [List.getElem?_toArray, hu] at e1
      exact (Option.some.inj e1).symm
    subst ex
    refine ⟨_, rfl, wpAny_letOwnedTupleGo_enum (s := { s with heap := h', toks := tk + 1 }) ho fun h'' he' sb => ?_⟩
    have hT2 : h''.get? s.heap.objs.size = some { cls := .type "tuple", data := .seq #[.int i tk, x'] } := (sb.2 _ (Nat.ne_of_gt hel)).trans hT
    have new : ObjOk X.prog X.w (upd H s.heap.objs.size (.frz { cls := .type "tuple", data := .seq #[.int i tk, x'] } (.tup [.int (i : Nat), x]))) h'' s.heap.objs.size (.frz { cls := .type "tuple", data := .seq #[.int i tk, x'] } (.tup [.int (i : Nat), x])) :=
      ⟨hT2, by show 2 ≤ sizeLine; decide, [.int i tk, x'], .cons ⟨_, rfl⟩ (.cons ru .nil), ⟨_, hT2, rfl, _, rfl⟩⟩
    have I1 : L2.Inv X pins σ (upd H s.heap.objs.size (.frz { cls := .type "tuple", data := .seq #[.int i tk, x'] } (.tup [.int (i : Nat), x]))) { s with heap := h'', toks := tk + 1 } :=
      I.turnedNew (t' := tk + 1) (ch := [e, it]) (fun b ob hb q => (sb.2 b (fun z => hb (by simp [z]))).trans (hk b ob (fun z => hb (by simp [z])) (fun z => hb (by simp [z])) q)) hf (Nat.le_refl _) new
    refine ⟨.ref s.heap.objs.size, _, I1, rfl, ⟨_, _, x, rfl, I.hok.fresh (Nat.le_refl _), rfl, rfl, fun ys hy => by rw [sqK_inj I hy hq]; exact hx⟩, ⟨⟨x', ?_⟩, itK_at hst'.1 fun o q => (sb.2 it (Ne.symm hne)).trans q, hne⟩, fun b hb => ?_⟩
    · have e1 : ((i + 1 : Nat) : Int) = (i : Int) + 1 := by omega
      rw [e1]; exact he'
    · have hb' : b < s.heap.objs.size := by
        have e' : b = e ∨ b = it := by simpa using hb
        rcases e' with z | z
        · rw [z]; exact hel
        · rw [z]; exact hil
      rw [upd_ne (Nat.ne_of_lt hb')]
      exact (hf b hb).1
  done := by
    intro X hP hw hK hc i pins s σ H E I hf st hg
    subst hP hw hK
    obtain ⟨⟨old, he⟩, hit, hne⟩ := st
    obtain ⟨xs, hq, hx⟩ := hg
    obtain ⟨its, rv, p, _⟩ := obK_of k I hq
    obtain ⟨f0, f1, f2, f3, f4, f5⟩ := hf it (by simp)
    have hl := rv.length
    have ei : i = its.toArray.size := by rw [List.size_toArray]; omega
    subst ei
    exact wpAny_pyNext_enum_endD (drK (A := X.A.in1) (I.ok.hd hc) k it a hai its.toArray) he ⟨hit, p⟩ fun h' eb => ⟨rfl, I.turned (t' := s.toks) (fun b o hb q => eb b o hb q) f0 f1 f3 f4 f5⟩
  self := fun A i s Q E st h => let ⟨⟨_, he⟩, _⟩ := st; wpAny_pyIter_enum he h
theorem pi_enumM {X : Cx} {e : Expr} {ta : TA} {p pos tpos : Pos} {elts : List Expr} {kk : Nat} (hg : Gl X "enumerate") (hm : X.mg "enumerate" = none) (ha : PA X [e] ta) (hs : starEach [e] X.env = (false, eval e X.env) :: starEach [] X.env := by rfl) :
    PI X (.Tuple elts kk tpos) (.Call (.Name "enumerate" p) [e] [] pos) (fun σ H R => ta σ H fun vs H1 => ∃ k a xs, vs = [.ref a] ∧ sqK k X.K H1 a xs ∧ R (IteM k X.K a) H1) := by
  refine ⟨fun pins s σ H R I h => ?_⟩
  refine Call_ (ld_blt I hg hm boot_enumerate (PyProof.Rows.callWith_type1 (thn (ha.run pos pins s σ H _ I h) fun us s1 ⟨vs, H1, I1, r1, q1⟩ => ?_) hs rfl))
  obtain ⟨k, a, xs, ex, hq, q⟩ := q1
  subst ex
  cases r1 with
  | cons r rr =>
    cases rr
    cases r
    obtain ⟨its, rv, p1, la⟩ := obK_of k I1 hq
    obtain ⟨o1, B1, g1⟩ := bgK k a its.toArray
    refine enum_first B1 p1 fun h' he hit hk => wpAny_pyIter_enum he ?_
    have I2 : L2.Inv X pins σ H1 { s1 with heap := h' } := I1.kept (t' := s1.toks) hk
    refine ⟨s1.heap.objs.size + 1, [s1.heap.objs.size + 1, s1.heap.objs.size], _, _, H1, rfl, I2, turn_enumM k a (s1.heap.objs.size + 1) s1.heap.objs.size (Nat.ne_of_lt la) (Nat.ne_of_lt (Nat.lt_succ_of_lt la)), ⟨⟨.none, he⟩, g1 _ _ hit, Nat.succ_ne_self _⟩, fun b hb => ?_, q⟩
    have e' : b = s1.heap.objs.size + 1 ∨ b = s1.heap.objs.size := by simpa using hb
    have hle : s1.heap.objs.size ≤ b := by
      rcases e' with z | z
      · rw [z]; exact Nat.le_add_right _ _
      · rw [z]; exact Nat.le_refl _
    exact I1.fpOk hle (I1.hok.fresh hle)
section
variable {X : Cx} {EW : XK} {rf : List Nat} {H : Hp}
def enumL (ds : List D) : List D := List.zipWith (fun (i : Nat) d => D.tup [.int (i : Int), d]) (List.range ds.length) ds
def enumD (ds : List D) : Res (List D) := match ds with
  | [d] => (match asAny d with
    | .ok xs => .ok (enumL xs)
    | _ => .stuck)
  | _ => .stuck
theorem nx_enum (a : List D) (c : Str) (fs : List (Str × D)) : enumD a ≠ .exn c fs := by unfold enumD; split <;> (try split) <;> simp
theorem enumL_at {ds : List D} {i : Nat} {d : D} (h : (enumL ds)[i]? = some d) : ∃ x, ds[i]? = some x ∧ d = .tup [.int (i : Int), x] := by
  unfold enumL at h
  rw [List.getElem?_zipWith] at h
  by_cases hi : i < ds.length
  · rw [List.getElem?_range hi, List.getElem?_eq_getElem hi] at h
    exact ⟨ds[i], List.getElem?_eq_getElem hi, (Option.some.inj h).symm⟩
  · rw [List.getElem?_eq_none (l := List.range ds.length) (by rw [List.length_range]; omega)] at h
    cases h
theorem enumL_len (ds : List D) : (enumL ds).length = ds.length := by unfold enumL; simp
theorem li_enum {a : Expr} {m : MA} {p pos tpos : Pos} {elts : List Expr} {kk : Nat} (hg : Gl X "enumerate") (hm : X.mg "enumerate" = none) (h : LA X EW rf [a] m)
    (hs : starEach [a] X.env = (false, eval a X.env) :: starEach [] X.env := by rfl) :
    LI X EW rf (.Tuple elts kk tpos) (.Call (.Name "enumerate" p) [a] [] pos) (mLast m enumD) := by
  refine ⟨fun H0 A hA => (pi_enumM hg hm (h.run H0 A hA) hs).imp fun σ H R q => ?_⟩
  refine (rM.last (R := RA X) q nx_enum).mono fun vs H1 ⟨d, ds, rd, hd, q⟩ => ?_
  unfold enumD at hd
  split at hd
  · rename_i da
    split at hd
    · rename_i xs ex
      cases hd
      have rd' : RDs X.K X.mg H1 vs [da] := rd
      obtain ⟨v, rfl, r1⟩ := rd'.one
      obtain ⟨k1, a1, us, rfl, ru, su⟩ := sq_any r1 ex
      refine ⟨k1, a1, us, rfl, su H1 (Ext.refl _), q _ H1 (Same.refl H1) ?_⟩
      refine fun H2 e => ⟨fun i hi => ?_, fun i x H3 d hd hy => ?_, ?_⟩
      · rw [enumL_len] at hi
        have h1 : i < us.length := by rw [ru.length]; omega
        exact ⟨us, _, su H2 e, List.getElem?_eq_getElem h1⟩
      · obtain ⟨T, oT, x1, rfl, hT, hTd, rfl, f1⟩ := hy
        obtain ⟨d1, g1, r1⟩ := (RDs.ext e ru).get' (f1 us (su H2 e))
        obtain ⟨x', g2, rfl⟩ := enumL_at hd
        rw [g1] at g2
        cases g2
        have s := same_new hT (.frz oT (.tup [.int (i : Nat), x1]))
        exact ⟨s, .tup (.inl ⟨oT, upd_same, hTd⟩) (.cons (.int _) (.cons (r1.ext (Ext.of_same s)) .nil))⟩
      · rw [enumL_len]
        exact ⟨us, su H2 e, ru.length⟩
    · cases hd
  · cases hd
end
end ML


namespace ML
open PySem PySem.Spec PyProof.Rows L2
variable [Tabs]
section
variable {X : Cx} {EW : XK} {rf : List Nat} {H : Hp}
end
end ML


namespace ML
open PySem PySem.Spec PyProof.Rows L2
variable [Tabs]
section
variable {X : Cx} {EW : XK} {rf : List Nat}
end
end ML


namespace ML
open PySem PySem.Spec
section
variable {prog : Program} {w : World} {A : Around} {E : Value → Shared → Prop} {s : Shared} {z TI TO i1 i2 T : Addr} {fp1 fp2 : List Addr} {n1 n2 i : Nat} {P1 P2 : Nat → Value → Prop} {St1 St2 : Nat → Heap → Prop} {f : Bool} {oT : Obj}
end
end ML


namespace ML
open PySem PySem.Spec PyProof.Rows L2
variable [Tabs]
def ZS (k1 k2 : Bool) (z TI TO i1 i2 a b S : Addr) (i : Nat) (h : Heap) : Prop :=
  IsTupOf2 h TI (.ref i1) (.ref i2) ∧ itK k1 h i1 a i ∧ itK k2 h i2 b i ∧ ((IsZip h z TI TO .none ∧ ∃ x y, IsTupOf2 h TO x y) ∨ ∃ T f oT, IsZipHeld h z TI TO T f ∧ (∃ oo, h.get? TO = some oo) ∧ h.get? T = some oT ∧ T ≠ z ∧ T ≠ i1 ∧ T ≠ i2 ∧ T ≠ S)
section
variable {X : Cx} {a b z TI TO i1 i2 S : Addr} {k1 k2 : Bool}
theorem ZS.keep {i : Nat} {h h' : Heap} (st : ZS k1 k2 z TI TO i1 i2 a b S i h) (hz : z ≠ S) (hTI : TI ≠ S) (hTO : TO ≠ S) (h1 : i1 ≠ S) (h2 : i2 ≠ S) (k : ∀ c o, c ≠ S → h.get? c = some o → h'.get? c = some o) : ZS k1 k2 z TI TO i1 i2 a b S i h' := by
  obtain ⟨q1, q2, q3, q⟩ := st
  refine ⟨k _ _ hTI q1, itK_at q2 fun o e => k _ o h1 e, itK_at q3 fun o e => k _ o h2 e, ?_⟩
  rcases q with ⟨q, x, y, r⟩ | ⟨T, f, oT, q, ⟨oo, r0⟩, r, r1, r2, r3, r4⟩
  · exact .inl ⟨k _ _ hz q, x, y, k _ _ hTO r⟩
  · exact .inr ⟨T, f, oT, k _ _ hz q, ⟨oo, k _ _ hTO r0⟩, k _ _ r4 r, r1, r2, r3, r4⟩
theorem ZS.lt {i : Nat} {h : Heap} (st : ZS k1 k2 z TI TO i1 i2 a b S i h) : z < h.objs.size ∧ TI < h.objs.size ∧ TO < h.objs.size ∧ i1 < h.objs.size ∧ i2 < h.objs.size := by
  obtain ⟨q1, q2, q3, q⟩ := st
  obtain ⟨o1, e1, _⟩ := itK_obj q2
  obtain ⟨o2, e2, _⟩ := itK_obj q3
  rcases q with ⟨q, x, y, r⟩ | ⟨T, f, oT, q, ⟨oo, r0⟩, r, r1, r2, r3, r4⟩
  · exact ⟨Heap.lt_size q, Heap.lt_size q1, Heap.lt_size r, Heap.lt_size e1, Heap.lt_size e2⟩
  · exact ⟨Heap.lt_size q, Heap.lt_size q1, Heap.lt_size r0, Heap.lt_size e1, Heap.lt_size e2⟩
theorem ZS.ty {i : Nat} {s : Shared} (st : ZS k1 k2 z TI TO i1 i2 a b S i s.heap) : s.TypeIs (.ref z) "zip" := by
  obtain ⟨q1, q2, q3, q⟩ := st
  rcases q with ⟨q, _⟩ | ⟨T, f, oT, q, _⟩
  · exact ⟨_, q, rfl⟩
  · exact ⟨_, q, rfl⟩
end
section
variable {X : Cx} {EW : XK} {rf : List Nat}
end
end ML


namespace ML
open PySem PySem.Spec PyProof.Rows L2
variable [Tabs]
def allLoop (sw : Bool) (g : MG) (vs : List Nat) (elt : ME) : List D → En → Res (D × En)
  | [], ρ => .ok (.bl sw, ρ)
  | d :: ds, ρ => match g d (wipeE ρ vs) with
    | .ok ρ1 => (match elt ρ1 with
      | .ok (.bl b, ρ2) => if b = sw then allLoop sw g vs elt ds (wipeE ρ2 vs) else .ok (.bl (!sw), wipeE ρ2 vs)
      | _ => .stuck)
    | _ => .stuck
def eAll (sw : Bool) (mi : MA) (g : MG) (vs : List Nat) (elt : ME) : ME := fun ρ => match mi ρ with
  | .ok (ds, ρ1) => allLoop sw g vs elt ds ρ1
  | .exn c fs => .exn c fs
  | .stuck => .stuck
theorem allLoop_nx {sw : Bool} {g : MG} {vs : List Nat} {elt : ME} : ∀ (l : List D) (ρ : En) (c : Str) (fs : List (Str × D)), allLoop sw g vs elt l ρ ≠ .exn c fs
  | [], _, _, _ => by unfold allLoop; simp
  | d :: l, ρ, c, fs => by
    unfold allLoop
    intro h
    split at h
    · split at h
      · split at h
        · exact allLoop_nx l _ _ _ h
        · cases h
      · cases h
    · cases h
theorem sm_tabX {K : PySem.W.Frag} {mg : Str → Option Value} {H0 H H' : Hp} {A : List (Nat × Addr)} {σ : L2.St} {ρ : En} (r : SR K mg H0 A σ H ρ) {P : Addr} (hT : Tabs.T P) (x : TabX P H H') : Sm H H' := by
  obtain ⟨ps, eP, _⟩ := r.tb P hT
  refine ⟨fun b o e => ?_, fun Q hQ => ?_⟩
  · by_cases hb : b = P
    · subst hb
      rw [eP] at e
      cases e
      obtain ⟨more, q⟩ := x.up ps eP
      exact .inr ⟨ps, more, rfl, q⟩
    · exact .inl (by rw [x.off b hb]; exact e)
  · by_cases hb : Q = P
    · rw [hb]; exact x.tg
    · exact tabG_keep (r.tb Q hQ) fun o e _ => by rw [x.off Q hb]; exact e
theorem Cok.gen {X : Cx} {EW : XK} {j k : Nat} (c : Cok X EW k) (h : j + 1 ≤ k) {A' : Around} (s : Shared) (H : Hp) (genv : PySem.Env) (fp : List Addr) (ga : GenA X A') : Cok (Cx.gen X A' s H genv fp) E0 j := by
  have hr := c.hr.mono h
  refine ⟨rfl, ga.gd.trans c.hg, ⟨ga.hd, ?_, ?_⟩, c.nd, passL, PassesOwn.never, fun u s' ⟨_, _, _, _, _, _, _, _, _, _, _, _, _, _, _, _, z⟩ => z.elim⟩
  · have h1 := hr.dp
    have h2 := ga.dp
    show A'.depth + 3 * j + 5 < recursionLimit
    omega
  · have h1 := hr.un
    have h2 := ga.un
    show A'.units + 16 * j + 200 < cLine
    omega
section
variable {X : Cx} {EW : XK} {rf : List Nat}
theorem all_core {sw : Bool} {P : Addr} {mi : MA} {g : MG} {vs : List Nat} {me : ME} {H0 : Hp} {A : List (Nat × Addr)} {σ : L2.St} {H : Hp} {Q : VK} (hT : Tabs.T P) (hA : A.map (·.1) = rf) (hv : ∀ i ∈ rf, i ∉ vs) (q : rM X EW H0 A (RE X) (eAll sw mi g vs me) σ H Q) :
    tAllG P sw (rM X EW H0 A (IterOk X) mi) (fun v σ H Q => ∃ H0 A, A.map (·.1) = rf ∧ rG X H0 A (RE X) vs g v σ H Q) (aR X E0 rf (RE X) me) vs σ H Q := by
  have hv' : ∀ p ∈ A, p.1 ∉ vs := fun p hp => hv _ (hA ▸ List.mem_map_of_mem hp)
  obtain ⟨ρ, r, q⟩ := q
  refine ⟨ρ, r, ?_⟩
  unfold eAll at q
  cases em : mi ρ with
  | exn c fs => rw [em] at q; exact q
  | stuck => rw [em] at q; exact q
  | ok p =>
    obtain ⟨ds, ρ0⟩ := p
    rw [em] at q
    simp only at q
    intro J H1 r1 x1 ij
    refine ⟨r1.tb P hT, fun H2 tx => ?_⟩
    have s12 := sm_tabX r1 hT tx
    have x12 := Ext.of_sm s12
    cases eres : allLoop sw g vs me ds ρ0 with
    | exn c fs => exact absurd eres (allLoop_nx _ _ _ _)
    | stuck => rw [eres] at q; exact q.elim
    | ok res =>
      rw [eres] at q
      refine ⟨fun i m H3 => m + i = ds.length ∧ ∃ ρ2, SR X.K X.mg H0 A σ H3 ρ2 ∧ Ext H1 H3 ∧ allLoop sw g vs me (ds.drop i) ρ2 = .ok res, ⟨ds.length, by omega, ρ0, r1.sm s12, x12, eres⟩, fun i m H3 hW => ?_⟩
      obtain ⟨hm, ρ2, r2, x2, ec⟩ := hW
      obtain ⟨go, yld, stop⟩ := ij H3 x2
      by_cases hi : i < ds.length
      · refine .inr ⟨go i hi, fun H4 => ∃ ρ2, SR X.K X.mg H0 A σ H4 ρ2 ∧ Ext H1 H4 ∧ allLoop sw g vs me (ds.drop (i + 1)) ρ2 = .ok res, fun H' hN => ⟨m - 1, by omega, by omega, hN⟩, fun x H4 hy => ?_⟩
        have hd : ds[i]? = some ds[i] := List.getElem?_eq_getElem hi
        obtain ⟨s, rx⟩ := yld i x H4 ds[i] hd hy
        rw [List.drop_eq_getElem_cons hi] at ec
        unfold allLoop at ec
        cases eg : g ds[i] (wipeE ρ2 vs) with
        | ok ρ3 =>
          rw [eg] at ec
          simp only at ec
          refine ⟨H0, A, hA, wipeE ρ2 vs, ds[i], (r2.same s).wipe hv', rx, ?_⟩
          rw [eg]
          refine fun σ5 H5 r5 x5 o5 => ⟨wipe_off o5, H0, A, hA, ρ3, r5, ?_⟩
          cases ee : me ρ3 with
          | ok pe =>
            obtain ⟨y, ρ4⟩ := pe
            rw [ee] at ec
            cases y with
            | bl b =>
              simp only at ec
              refine fun v H6 r6 x6 rv => ⟨b, RE.bl rv, ?_⟩
              have x16 : Ext H1 H6 := x2.trans ((Ext.of_same s).trans (x5.trans x6))
              by_cases hb : b = sw
              · rw [if_pos hb] at ec ⊢
                exact ⟨wipeE ρ4 vs, r6.unwipe o5 hv', x16, ec⟩
              · rw [if_neg hb] at ec ⊢
                cases ec
                exact q (.bl !sw) H6 (r6.unwipe o5 hv') (x1.trans x16) (RD.bl _)
            | _ => cases ec
          | exn c fs => rw [ee] at ec; cases ec
          | stuck => rw [ee] at ec; cases ec
        | exn c fs => rw [eg] at ec; cases ec
        | stuck => rw [eg] at ec; cases ec
      · have ei : i = ds.length := by omega
        subst ei
        refine .inl ⟨stop, ?_⟩
        rw [List.drop_eq_nil_of_le (Nat.le_refl _)] at ec
        cases ec
        exact q (.bl sw) H3 r2 (x1.trans x2) (RD.bl _)
theorem le_allG {k j : Nat} {elt tg iter : Expr} {scope : Scope} {own : List (Str × Nat)} {p pos gpos : Pos} {mi : MA} {g : MG} {me : ME} (c : Cok X EW k) (hj : j + 1 ≤ k) (hgl : Gl X "all") (hm : X.mg "all" = none) (hcd : ∃ c P, X.env.code = .ref c ∧ GxR.TabB X.base X.mg c P ∧ Tabs.T P)
    (hi : LI X EW rf tg iter mi) (ok : GenOk X.N X.env.scope scope own) (hv : ∀ i ∈ rf, i ∉ own.map (·.2))
    (hg : ∀ (A' : Around) (s : Shared) (H : Hp) (cl : List (Str × Addr)) (C : Addr) (code : Value) (fp : List Addr), Cok (Cx.gen X A' s H (genEnv scope cl C code builtinsNs X.env) fp) E0 j → LG (Cx.gen X A' s H (genEnv scope cl C code builtinsNs X.env) fp) rf (own.map (·.2)) tg g)
    (he : ∀ (A' : Around) (s : Shared) (H : Hp) (cl : List (Str × Addr)) (C : Addr) (code : Value) (fp : List Addr), Cok (Cx.gen X A' s H (genEnv scope cl C code builtinsNs X.env) fp) E0 j → LE (Cx.gen X A' s H (genEnv scope cl C code builtinsNs X.env) fp) E0 rf elt me)
    (hs : ∀ v, genFold iter X.env v = pure v := by intro _; rfl)
    (hst : starEach [.GeneratorExp elt [⟨tg, iter, [], 0⟩] scope gpos] X.env = (false, eval (.GeneratorExp elt [⟨tg, iter, [], 0⟩] scope gpos) X.env) :: starEach [] X.env := by rfl) :
    LE X EW rf (.Call (.Name "all" p) [.GeneratorExp elt [⟨tg, iter, [], 0⟩] scope gpos] [] pos) (eAll true mi g (own.map (·.2)) me) := by
  obtain ⟨cc, P, hcode, TB, hT⟩ := hcd
  refine ⟨fun H0 A hA => (pe_allG (gg := fun v σ H Q => ∃ H0 A, A.map (·.1) = rf ∧ rG X H0 A (RE X) (own.map (·.2)) g v σ H Q) (te := aR X E0 rf (RE X) me) c.hr c.nd hgl hm TB hcode ok (hi.run H0 A hA)
    (fun A' s H cl C code fp ga => (hg A' s H cl C code fp (c.gen hj s H _ fp ga)).all) (fun A' s H cl C code fp ga => (he A' s H cl C code fp (c.gen hj s H _ fp ga)).all) hs hst).imp fun σ H Q q => ?_⟩
  exact all_core hT hA hv q
end
end ML


namespace ML
open PySem PySem.Spec PyProof.Rows L2
def allBls (xs : List D) : Option (List Bool) := match xs with
  | [] => some []
  | .bl b :: r => (match allBls r with
    | some bs => some (b :: bs)
    | none => none)
  | _ => none
theorem allBls_map : ∀ (bs : List Bool), allBls (bs.map D.bl) = some bs
  | [] => rfl
  | b :: r => by
    show (match allBls (r.map D.bl) with | some bs => some (b :: bs) | none => none) = _
    rw [allBls_map r]
def allD (ds : List D) : Res D := match ds with
  | [.lst xs] => (match allBls xs with
    | some bs => .ok (.bl (bs.all id))
    | none => .stuck)
  | _ => .stuck
def anyD (ds : List D) : Res D := match ds with
  | [.lst xs] => (match allBls xs with
    | some bs => .ok (.bl (bs.any id))
    | none => .stuck)
  | _ => .stuck
@[simp] theorem allD_map (bs : List Bool) : allD [.lst (bs.map D.bl)] = .ok (.bl (bs.all id)) := by
  show (match allBls (bs.map D.bl) with | some bs => Res.ok (D.bl (bs.all id)) | none => .stuck) = _
  rw [allBls_map]
@[simp] theorem anyD_map (bs : List Bool) : anyD [.lst (bs.map D.bl)] = .ok (.bl (bs.any id)) := by
  show (match allBls (bs.map D.bl) with | some bs => Res.ok (D.bl (bs.any id)) | none => .stuck) = _
  rw [allBls_map]
variable [Tabs]
section
variable {X : Cx}
end
def genC (N : List Str) (sc scope : Scope) (own : List (Str × Nat)) : Bool :=
  blkC N sc scope own && ((!scope.isCoroutine) && ((match scope.names.lookup (".0" : Str) with
    | some .local => true
    | _ => false) && ((!N.contains (".0" : Str)) && scope.names.all fun y => match y.2 with
    | .cell => false
    | _ => true)))
theorem genOk_by {N : List Str} {sc scope : Scope} {own : List (Str × Nat)} (h : genC N sc scope own = true) : GenOk N sc scope own := by
  unfold genC at h
  rw [Bool.and_eq_true, Bool.and_eq_true, Bool.and_eq_true, Bool.and_eq_true] at h
  obtain ⟨h1, h2, h3, h4, h5⟩ := h
  refine ⟨blkOk_by h1, by simpa using h2, ?_, by simpa using h4, fun y hy e => ?_⟩
  · split at h3
    · assumption
    · cases h3
  · have := List.all_eq_true.mp h5 y hy
    rw [e] at this
    cases this
theorem codT_of {K : PySem.W.Frag} {base : Heap} {mg : Str → Option Value} {tf : List He.Defn} {p : He.Defn} {x qual : Str} {params : Arguments} {body : List Stmt} {scope : Scope} {dvs : List V} {kws : List (Str × V)} {fd : FuncData}
    (B : ∀ p ∈ tf, GxR.TabB base mg (He.cT K p).1 (He.cT K p).2 ∧ Tabs.T (He.cT K p).2) (hp : p ∈ tf) (F : FunD K x qual params body scope dvs kws (He.fAd K p) fd) : CodT base mg fd := by
  obtain ⟨oc, od, dV, kV, doc, pm, an, cdv, ct, osl, rfl, lk, hcd, _, _⟩ := F.ex
  intro c hc
  have e : He.codeOf K p = c := He.codeOf_eq lk hc
  obtain ⟨h1, h2⟩ := B p hp
  refine ⟨(He.cT K p).2, ?_, h2⟩
  have e1 : (He.cT K p).1 = c := e
  rw [e1] at h1
  exact h1
end ML


namespace ML
open PySem PySem.Spec PyProof.Rows L2
section
local instance : Tabs := ⟨fun _ => False⟩
@[simp] theorem eAll_ap (ρ : En) (sw : Bool) (mi : MA) (g : MG) (vs : List Nat) (elt : ME) : eAll sw mi g vs elt ρ = (mi ρ).bind fun p => allLoop sw g vs elt p.1 p.2 := by
  unfold eAll
  cases mi ρ <;> rfl
def tupB : D → Bool
  | .tup _ => true
  | _ => false
theorem seq_ok {a b : MS} {ρ ρ1 : En} (h : a ρ = .ok (.nx ρ1)) : sSeq a b ρ = b ρ1 := by
  rw [sSeq_ap, h]; rfl
theorem seq2_ok {a b c : MS} {ρ ρ1 : En} (h : sSeq a b ρ = .ok (.nx ρ1)) : sSeq a (sSeq b c) ρ = c ρ1 := by
  rw [sSeq_ap] at h ⊢
  cases ha : a ρ with
  | exn k fs => rw [ha] at h; cases h
  | stuck => rw [ha] at h; cases h
  | ok f =>
    rw [ha] at h
    cases f with
    | nx ρ2 =>
      replace h : b ρ2 = .ok (.nx ρ1) := h
      show sSeq b c ρ2 = _
      exact seq_ok h
    | rt d ρ => cases h
    | bk ρ => cases h
    | ct ρ => cases h
@[simp] theorem eIdx_ap (mo me : ME) (ρ : En) : eIdx mo me ρ = (mo ρ).bind fun p => match p.1 with
    | .tup ds => (me p.2).bind fun q => (idxEnd (.tup ds) q.1).bind fun b => .ok (b, q.2)
    | _ => .stuck := by
  unfold eIdx
  cases mo ρ with
  | ok p =>
    obtain ⟨d, ρ1⟩ := p
    cases d with
    | tup ds => exact mLast_ap ρ1 me (idxEnd (.tup ds))
    | _ => rfl
  | exn c fs => rfl
  | stuck => rfl
end
end ML


namespace ML
open PySem PySem.Spec PyProof.Rows L2
section
local instance : Tabs := ⟨fun _ => False⟩
end
end ML


namespace ML
open PySem PySem.Spec PyProof.Rows L2
variable [Tabs]
section
variable {K : PySem.W.Frag} {mg : Str → Option Value} {H0 H : Hp} {A : List (Nat × Addr)} {σ : L2.St} {ρ : En} {a : Addr} {xs : List V}
end
def eCallL (F : List D → List D → Res (D × List D)) (ml ms : MA) : ME := fun ρ => match ml ρ with
  | .ok (bs, ρ1) => (match ms ρ1 with
    | .ok (ds, ρ2) => (match F bs ds with
      | .ok (d, _) => .ok (d, ρ2)
      | _ => .stuck)
    | .exn c fs => .exn c fs
    | .stuck => .stuck)
  | .exn c fs => .exn c fs
  | .stuck => .stuck
section
variable {X : Cx} {k j : Nat} {ps : List Str} {EW : XK} {rf : List Nat} {x : Str} {p pos : Pos} {e : Expr} {es : List Expr} {ml m : MA}
end
@[simp] theorem eCallL_ap (F : List D → List D → Res (D × List D)) (ml ms : MA) (ρ : En) : eCallL F ml ms ρ = (ml ρ).bind fun p => (ms p.2).bind fun q => (F p.1 q.1).keep.bind fun b => .ok (b.1, q.2) := by
  unfold eCallL
  cases ml ρ with
  | ok p =>
    obtain ⟨bs, ρ1⟩ := p
    show _ = (ms ρ1).bind fun q => (F bs q.1).keep.bind fun b => .ok (b.1, q.2)
    simp only
    cases ms ρ1 with
    | ok q =>
      obtain ⟨ds, ρ2⟩ := q
      show _ = (F bs ds).keep.bind fun b => .ok (b.1, ρ2)
      simp only
      cases F bs ds <;> rfl
    | exn c fs => rfl
    | stuck => rfl
  | exn c fs => rfl
  | stuck => rfl
end ML


namespace ML
open PySem PySem.Spec PyProof.Rows L2
variable [Tabs]
end ML


namespace ML
open PySem PySem.Spec PyProof.Rows L2
variable [Tabs]
theorem Cok.tr {X : Cx} {EW : XK} {k : Nat} (c : Cok X EW k) (pn : List (Addr × Obj)) (xe : Value → Shared → Prop) (ow : PassesOwn (model X.prog X.w) X.A X.env xe) : Cok (X.tr pn xe) E0 k :=
  ⟨c.hc, c.hg, c.hr, c.nd, passL, ow, fun u s' ⟨_, _, _, _, _, _, _, _, _, _, _, _, _, _, _, _, z⟩ => z.elim⟩
section
variable {K : PySem.W.Frag} {mg : Str → Option Value} {H0 H : Hp} {A : List (Nat × Addr)} {σ : L2.St} {ρ : En} {i : Nat}
theorem SR.name (r : SR K mg H0 A σ H ρ) (hn : ρ[i]? = some none) (hi : i ∉ A.map (·.1)) (v : Option V) : SR K mg H0 A (σ.set i v) H ρ := by
  have ne : ∀ (j : Nat) (x : MV), ρ[j]? = some (some x) → i ≠ j := fun j x h z => by subst z; rw [hn] at h; cases h
  refine ⟨by rw [r.len, List.length_set], fun j d h => ?_, fun j ds h => ?_, fun j k ds ds' a n h1 h2 h3 h4 => ?_, r.fr, fun p hp => ?_, r.liv, r.tb, r.nst.env (fun j rows h => ⟨h, List.getElem?_set_ne (ne j _ h)⟩) (fun j ds c h hs na => na.own h (by rw [← List.getElem?_set_ne (ne j _ h)]; exact hs)) (fun j c nn dd h => ⟨h, List.getElem?_set_ne (ne j _ h)⟩), r.ins.env (fun j c nn dd h => ⟨h, List.getElem?_set_ne (ne j _ h)⟩)⟩
  · rw [List.getElem?_set_ne (ne j _ h)]; exact r.dat j d h
  · rw [List.getElem?_set_ne (ne j _ h)]; exact r.own j ds h
  · rw [List.getElem?_set_ne (ne j _ h1)] at h3
    rw [List.getElem?_set_ne (ne k _ h2)] at h4
    exact r.ap j k ds ds' a n h1 h2 h3 h4
  · rw [List.getElem?_set_ne (fun z => hi (List.mem_map.mpr ⟨p, hp, z.symm⟩))]; exact r.ref p hp
end
def goneR (i : Nat) (r : Res Fl) : Res Fl := match r with
  | .ok (.nx ρ) => (match ρ[i]? with | some none => .ok (.nx ρ) | _ => .stuck)
  | .ok (.rt d ρ) => .ok (.rt d ρ)
  | .ok (.bk ρ) => (match ρ[i]? with | some none => .ok (.bk ρ) | _ => .stuck)
  | .ok (.ct ρ) => (match ρ[i]? with | some none => .ok (.ct ρ) | _ => .stuck)
  | _ => .stuck
def sTryC (F : List D → Res D) (ma : MA) (i : Nat) (cs : List Str) (hd : Str → List (Str × D) → MS) : MS := fun ρ => match ma ρ with
  | .ok (ds, ρ1) => (match F ds with
    | .ok _ => .ok (.nx ρ1)
    | .exn c fs => (match ρ1[i]? with
      | some none => if cs.contains c = true then goneR i (hd c fs ρ1) else .stuck
      | _ => .stuck)
    | .stuck => .stuck)
  | _ => .stuck
def tSuite (X : Cx) (rf : List Nat) (i : Nat) (hd : Str → List (Str × D) → MS) (a : Addr) (cls : Value) (d : Option Addr) : TS := fun Dn σ H =>
  ∃ c fs ρ H0 A, A.map (·.1) = rf ∧ ExR X.K X.mg c fs cls d H ∧ H a = none ∧ σ[i]? = some (some (.ref a)) ∧ ρ[i]? = some none ∧ SR X.K X.mg H0 A σ H ρ ∧ endS X E0 H0 A H Dn (hd c fs ρ)
section
variable {X : Cx} {k j i : Nat} {ps : List Str} {EW : XK} {rf : List Nat} {x y n : Str} {p np pos pos1 pos' posT : Pos} {e : Expr} {es : List Expr} {m : MA} {b₀ : Stmt} {suite : List Stmt} {cx : Value}
theorem endS.gone {H0 H H2 : Hp} {A : List (Nat × Addr)} {Dn : Ends} {r : Res Fl} (hi : i ∉ A.map (·.1)) (x : Ext H H2) (h : endS X EW H0 A H Dn (goneR i r)) :
    endS X E0 H0 A H2 { nx := fun σ' H' => Dn.nx (σ'.set i none) H', rt := Dn.rt, bk := fun σ' H' => Dn.bk (σ'.set i none) H', ct := fun σ' H' => Dn.ct (σ'.set i none) H' } r := by
  cases r with
  | ok f =>
    cases f with
    | nx ρ =>
      show ∀ σ' H', SR X.K X.mg H0 A σ' H' ρ → Ext H2 H' → Dn.nx (σ'.set i none) H'
      intro σ' H' sr e
      cases hn : ρ[i]? with
      | none => simp only [goneR, hn] at h; exact h.elim
      | some z =>
        cases z with
        | some z => simp only [goneR, hn] at h; exact h.elim
        | none => simp only [goneR, hn] at h; exact h _ _ (sr.name hn hi none) (x.trans e)
    | rt d ρ => exact fun v σ' H' sr e rd => h v σ' H' sr (x.trans e) rd
    | bk ρ =>
      show ∀ σ' H', SR X.K X.mg H0 A σ' H' ρ → Ext H2 H' → Dn.bk (σ'.set i none) H'
      intro σ' H' sr e
      cases hn : ρ[i]? with
      | none => simp only [goneR, hn] at h; exact h.elim
      | some z =>
        cases z with
        | some z => simp only [goneR, hn] at h; exact h.elim
        | none => simp only [goneR, hn] at h; exact h _ _ (sr.name hn hi none) (x.trans e)
    | ct ρ =>
      show ∀ σ' H', SR X.K X.mg H0 A σ' H' ρ → Ext H2 H' → Dn.ct (σ'.set i none) H'
      intro σ' H' sr e
      cases hn : ρ[i]? with
      | none => simp only [goneR, hn] at h; exact h.elim
      | some z =>
        cases z with
        | some z => simp only [goneR, hn] at h; exact h.elim
        | none => simp only [goneR, hn] at h; exact h _ _ (sr.name hn hi none) (x.trans e)
  | exn c fs => exact h.elim
  | stuck => exact h.elim
end
end ML


namespace ML
open PySem PySem.Spec PyProof.Rows L2
variable [Tabs]
def HasD (d : Option Addr) (H : Hp) : Prop := d = none ∨ ∃ (dd : Addr) (fs : List (Str × V)), d = some dd ∧ H dd = some (.xd fs)
def rIsED (K : PySem.W.Frag) (D a : Addr) (d : Option Addr) : List V → Hp → VK → Prop := fun xs H Q => HasD d H ∧ ∃ (c : V) (cv : Value) (b : Bool), xs = [.ref a, c] ∧ (∀ u, RelV c u → u = cv) ∧ PySem.W.kitOne K (.ref D) cv = some b ∧ Q (.bl b) H
theorem call_isED {X : Cx} {a D : Addr} {oe : Obj} {d : Option Addr} {pn : List (Addr × Obj)} (C : ExcC X.K D) (hz : Zc (.ref D) d oe) (hf : ∃ vs, oe.data = .fields vs) : CallR (X.suite a ((a, oe) :: pn)) (.builtin "isinstance") (rIsED X.K D a d) := by
  intro pins s σ H xs us Q I r h
  obtain ⟨hd, c, cv, b, rfl, hcv, e, q⟩ := h
  cases r with
  | cons rx rr =>
    cases rr with
    | cons rt rr =>
      cases rr
      cases rx
      have ec := hcv _ rt
      subst ec
      obtain ⟨hget, _⟩ := I.pin (a, oe) (List.mem_append.mpr (.inl List.mem_cons_self))
      obtain ⟨vs, hv⟩ := hf
      have hcl : (PySem.W.clsIn X.K D).isSome = true := by
        obtain ⟨cd, hc, _⟩ := PySem.W.any_some C.hd
        rw [hc]; rfl
      rcases hd with hd | ⟨dd, fs, hd, hH⟩
      · have J : PySem.W.InstAt s.heap a oe D none := by
          obtain ⟨oc, od, oda, osl⟩ := oe
          obtain ⟨h1, h2⟩ := hz
          dsimp only at h1 h2 hv
          subst h1 h2 hv
          subst hd
          exact ⟨hget, rfl, rfl, trivial⟩
        exact PySem.W.kia_one (PySem.W.kitx_exc hcl C.hg C.hk C.hs C.ha C.hn C.ht C.hm) I.kIn J e (fun z => nomatch z) fun tk => ⟨.bl b, H, I.kept (t' := tk) fun _ _ z => z, rfl, q⟩
      · have hx : ObjOk X.prog X.w H s.heap dd (.xd fs) := I.hok dd _ hH
        obtain ⟨mA, hns, hr⟩ := hx
        obtain ⟨od, ho, hl⟩ := lookIn_ns hns
        have J : PySem.W.InstAt s.heap a oe D (some od) := ⟨hget, hz.1, by unfold PySem.W.notCls; rw [hv] <;> rfl, by rw [hz.2, hd]; exact ho⟩
        exact PySem.W.kia_one (PySem.W.kitx_exc hcl C.hg C.hk C.hs C.ha C.hn C.ht C.hm) I.kIn J e (fun z => nomatch z) fun tk => ⟨.bl b, H, I.kept (t' := tk) fun _ _ z => z, rfl, q⟩
end ML


namespace ML
open PySem PySem.Spec PyProof.Rows L2
variable [Tabs]
section
variable {X : Cx} {EW : XK} {H0 : Hp} {A : List (Nat × Addr)} {σ : L2.St} {H : Hp}
theorem rM.ext {α β : Type} {R : β → α → Hp → Prop} {m : En → Res (α × En)} {Q : β → Hp → Prop} (h : rM X EW H0 A R m σ H Q) : rM X EW H0 A R m σ H fun v H1 => Ext H H1 ∧ Q v H1 := by
  obtain ⟨ρ, r, h⟩ := h
  refine ⟨ρ, r, ?_⟩
  cases e : m ρ with
  | ok p => rw [e] at h; exact fun v H' a b c => ⟨b, h v H' a b c⟩
  | exn c fs => rw [e] at h; exact h
  | stuck => rw [e] at h; exact h
end
structure PX (X : Cx) (i : Nat) (a : Addr) (fs : List (Str × D)) (vs : List (Str × V)) (σ : L2.St) (H : Hp) : Prop where
  sl : σ[i]? = some (some (.ref a))
  rd : RDs X.K X.mg H (vs.map (·.2)) (fs.map (·.2))
theorem PX.ext {X : Cx} {i : Nat} {a : Addr} {fs : List (Str × D)} {vs : List (Str × V)} {σ : L2.St} {H H' : Hp} (p : PX X i a fs vs σ H) (x : Ext H H') : PX X i a fs vs σ H' := ⟨p.sl, p.rd.ext x⟩
def DX (d : Option Addr) (fs : List (Str × D)) (vs : List (Str × V)) (H0 : Hp) : Prop := vs.map (·.1) = fs.map (·.1) ∧ match d with
  | none => fs = []
  | some dd => H0 dd = some (.xd vs)
structure LX (X : Cx) (i : Nat) (a : Addr) (oe : Obj) (d : Option Addr) (pn : List (Addr × Obj)) (fs : List (Str × D)) (e : Expr) (m : ME) : Prop where
  run : ∀ (H0 : Hp) (vs : List (Str × V)), DX d fs vs H0 → PE (X.suite a ((a, oe) :: pn)) e (fun σ H Q => PX X i a fs vs σ H ∧ rM X E0 H0 [] (RE X) m σ H Q)
structure LXA (X : Cx) (i : Nat) (a : Addr) (oe : Obj) (d : Option Addr) (pn : List (Addr × Obj)) (fs : List (Str × D)) (es : List Expr) (m : MA) : Prop where
  run : ∀ (H0 : Hp) (vs : List (Str × V)), DX d fs vs H0 → PA (X.suite a ((a, oe) :: pn)) es (fun σ H Q => PX X i a fs vs σ H ∧ rM X E0 H0 [] (RA X) m σ H Q)
section
variable {X : Cx} {i : Nat} {a : Addr} {oe : Obj} {d : Option Addr} {pn : List (Addr × Obj)} {fs : List (Str × D)} {e : Expr} {es : List Expr} {m ma mb : ME} {ms : MA}
theorem LX.of_le (h : LE (X.suite a ((a, oe) :: pn)) E0 [] e m) : LX X i a oe d pn fs e m :=
  ⟨fun H0 vs _ => (h.run H0 [] rfl).imp fun σ H Q ⟨_, q⟩ => q⟩
theorem lxa_nil : LXA X i a oe d pn fs [] aNil := ⟨fun H0 vs _ => pa_nil.imp fun σ H Q ⟨_, q⟩ => rM.pure (R := RA X) (d := []) q (Same.refl H) .nil⟩
theorem lxa_cons (h : LX X i a oe d pn fs e m) (hs : LXA X i a oe d pn fs es ms) (he : starEach (e :: es) X.env = (false, eval e X.env) :: starEach es X.env := by rfl) : LXA X i a oe d pn fs (e :: es) (aCons m ms) := by
  refine ⟨fun H0 vs hd => (pa_cons (h.run H0 vs hd) (hs.run H0 vs hd) he).imp fun σ H Q ⟨p, q⟩ => ⟨p, ?_⟩⟩
  refine (rM.then (R := RE X) q).ext.mono fun v H1 ⟨x, dv, r, q⟩ => ⟨p.ext x, ?_⟩
  obtain ⟨ρ, rr, q⟩ := rM.then (R := RA X) q
  refine ⟨ρ, rr, ?_⟩
  cases em : ms ρ with
  | ok z =>
    obtain ⟨ds, ρ2⟩ := z
    rw [em] at q
    refine fun ws H2 r2 x2 rv2 => ?_
    obtain ⟨ds', rs, q⟩ := q ws H2 r2 x2 rv2
    exact rM.pure (R := RA X) (d := dv :: ds') q (Same.refl H2) (.cons (RD.ext x2 r) rs)
  | exn c fs => rw [em] at q; exact q
  | stuck => rw [em] at q; exact q
theorem lx_tup {k : Nat} {pos : Pos} (h : LXA X i a oe d pn fs es ms) : LX X i a oe d pn fs (.Tuple es k pos) (eTup ms) := by
  refine ⟨fun H0 vs hd => (pe_tupZ (h.run H0 vs hd)).imp fun σ H Q ⟨p, q⟩ => ⟨p, ?_⟩⟩
  refine (rM.last (R := RA X) q fun a c fs => by split <;> simp).mono fun ws H1 ⟨ds, b, r, hb, q⟩ => ?_
  have hl : ws.length = ds.length := RDs.length r
  by_cases hz : ds.length ≤ sizeLine
  · rw [if_pos hz] at hb
    cases hb
    exact ⟨by omega, fun p o hp hd => q _ _ (same_new hp _) (.tup (.inl ⟨o, upd_same, hd⟩) (RDs.ext (Ext.of_same (same_new hp _)) r))⟩
  · rw [if_neg hz] at hb; cases hb
def eFld (fs : List (Str × D)) (f : Str) : ME := fun ρ => match fs.lookup f with
  | some dv => .ok (dv, ρ)
  | none => .stuck
theorem lookup_rd {K : PySem.W.Frag} {mg : Str → Option Value} {H : Hp} {f : Str} : ∀ (fs : List (Str × D)) (vs : List (Str × V)), vs.map (·.1) = fs.map (·.1) → RDs K mg H (vs.map (·.2)) (fs.map (·.2)) → ∀ dv, fs.lookup f = some dv → ∃ v, vs.lookup f = some v ∧ RD K mg H v dv
  | [], vs, _, _, dv, h => by simp at h
  | (k, x) :: fs, [], h, _, _, _ => by simp at h
  | (k, x) :: fs, (k', y) :: vs, h, r, dv, hl => by
    simp only [List.map_cons, List.cons.injEq] at h
    obtain ⟨rfl, h2⟩ := h
    cases r with
    | cons r1 r2 =>
      rw [List.lookup_cons] at hl ⊢
      cases hk : f == k' with
      | true => rw [hk] at hl; simp only at hl; cases hl; exact ⟨y, rfl, r1⟩
      | false => rw [hk] at hl; simp only at hl; exact lookup_rd fs vs h2 r2 dv hl
theorem lx_fld {C : Addr} {n f : Str} {np pos : Pos} (hz : Zc (.ref C) d oe) (hf : ∃ vs, oe.data = .fields vs) (T : XfC X.K C) (hno : PySem.W.findIn X.K (.ref C) f = some none) (hN : X.N[i]? = some n) (hv : Vis X.env.scope n)
    (hd1 : (n == ("__debug__" : Str)) = false := by decide) (hcd : (n == ("__classdict__" : Str)) = false := by decide) (hb : attributeBase (.Name n np) f X.env (eval (.Name n np) X.env) = eval (.Name n np) X.env := by rfl) :
    LX X i a oe d pn fs (.Attribute (.Name n np) f pos) (eFld fs f) := by
  refine ⟨fun H0 vs hd => (pe_xf T hno hz hf (pe_var (X := X.suite a ((a, oe) :: pn)) hN hv hd1 hcd) hb).imp fun σ H Q ⟨p, ρ, r, q⟩ => ?_⟩
  refine ⟨.ref a, p.sl, rfl, rfl, ?_⟩
  unfold eFld at q
  cases hl : fs.lookup f with
  | none => rw [hl] at q; exact q.elim
  | some dv =>
    rw [hl] at q
    simp only at q
    obtain ⟨hk, hm⟩ := hd
    obtain ⟨v, e1, rv⟩ := lookup_rd fs vs hk p.rd dv hl
    cases d with
    | none => simp only at hm; subst hm; simp at hl
    | some dd =>
      have hH : H dd = some (.xd vs) := (r.fr dd _ hm (by simp)).is fun ps z => (nomatch z)
      exact ⟨dd, vs, v, rfl, hH, e1, q v H r (Ext.refl H) rv⟩
end
end ML


namespace ML
open PySem PySem.Spec PyProof.Rows L2
variable [Tabs]
section
variable {X : Cx} {i : Nat} {a : Addr} {oe : Obj} {d : Option Addr} {pn : List (Addr × Obj)} {fs : List (Str × D)} {e : Expr} {m : ME}
def eIsC (b : Bool) : ME := fun ρ => .ok (.bl b, ρ)
theorem lx_isi {C : Addr} {n cn : Str} {c : V} {cv : Value} {b : Bool} {p np cp pos : Pos} (T : ExcC X.K C) (hz : Zc (.ref C) d oe) (hf : ∃ vs, oe.data = .fields vs) (hg : Gl X "isinstance") (hm : X.mg "isinstance" = none) (hN : X.N[i]? = some n) (hv : Vis X.env.scope n)
    (hc : PE (X.suite a ((a, oe) :: pn)) (.Name cn cp) (tC c)) (hcv : ∀ u, RelV c u → u = cv) (hk : PySem.W.kitOne X.K (.ref C) cv = some b)
    (hd1 : (n == ("__debug__" : Str)) = false := by decide) (hcd : (n == ("__classdict__" : Str)) = false := by decide)
    (he : starEach [Expr.Name n np, .Name cn cp] X.env = (false, eval (.Name n np) X.env) :: starEach [.Name cn cp] X.env := by rfl) (he2 : starEach [Expr.Name cn cp] X.env = (false, eval (.Name cn cp) X.env) :: starEach [] X.env := by rfl)
    (hpl : (backTo pos (starEach [Expr.Name cn cp] X.env)).any (·.1) = false := by rfl) (hvB : bootBuiltins "isinstance" = some (.builtin "isinstance") := by rfl) :
    LX X i a oe d pn fs (.Call (.Name "isinstance" p) [.Name n np, .Name cn cp] [] pos) (eIsC b) := by
  refine ⟨fun H0 vs hd => (pe_callB (X := X.suite a ((a, oe) :: pn)) (call_isED (d := d) T hz hf) hg hm hvB (pa_cons (pe_var (X := X.suite a ((a, oe) :: pn)) hN hv hd1 hcd) (pa_cons hc pa_nil he2) he) (by decide) (by decide) he hpl).imp fun σ H Q ⟨pp, ρ, r, q⟩ => ?_⟩
  refine ⟨.ref a, pp.sl, ?_⟩
  refine ⟨?_, c, cv, b, rfl, hcv, hk, q (.bl b) H r (Ext.refl H) (RD.bl b)⟩
  obtain ⟨hk', hm'⟩ := hd
  cases d with
  | none => exact .inl rfl
  | some dd => exact .inr ⟨dd, vs, rfl, (r.fr dd _ hm' (by simp)).is fun ps z => (nomatch z)⟩
end
section
variable {K : PySem.W.Frag} {mg : Str → Option Value} {H0 H : Hp} {σ : L2.St} {ρ : En} {dd : Addr} {vs : List (Str × V)}
theorem SR.fld (r : SR K mg H0 [] σ H ρ) (h : H dd = some (.xd vs)) : SR K mg (upd H0 dd (.xd vs)) [] σ H ρ := by
  refine ⟨r.len, r.dat, fun j ds q => ?_, r.ap, fun b o q n => ?_, (fun p hp => by cases hp), (fun p hp => by cases hp), r.tb, r.nst.entry fun b na => by
    rcases na.obj with ⟨xs, hx⟩ | ⟨C, dx, fs, hx⟩ <;> (rw [upd_ne (fun z => by rw [z, h] at hx; cases hx)]; exact na.new), r.ins.entry fun b q ⟨C, dx, fs, hx⟩ => by rw [upd_ne (fun z => by rw [z, h] at hx; cases hx)]; exact q⟩
  · obtain ⟨b, zs, h1, h2, h3, h4⟩ := r.own j ds q
    have nb : b ≠ dd := fun z => by rw [z, h] at h2; cases h2
    refine ⟨b, zs, h1, h2, h3, ?_⟩
    rcases h4 with h4 | h4
    · exact .inl (by rw [upd_ne nb]; exact h4)
    · cases h4
  · by_cases z : b = dd
    · subst z
      rw [upd_same] at q
      cases q
      exact .of h
    · rw [upd_ne z] at q; exact r.fr b o q n
theorem SR.unfld (r : SR K mg (upd H0 dd (.xd vs)) [] σ H ρ) (h : ∀ o, H0 dd = some o → o = .xd vs) : SR K mg H0 [] σ H ρ := by
  have hH : H dd = some (.xd vs) := (r.fr dd _ upd_same (by simp)).is fun ps z => (nomatch z)
  refine ⟨r.len, r.dat, fun j ds q => ?_, r.ap, fun b o q n => ?_, (fun p hp => by cases hp), (fun p hp => by cases hp), r.tb, r.nst.entry fun b na => (upd_none na.new).2, r.ins.entry fun b q _ => (upd_none q).2⟩
  · obtain ⟨b, zs, h1, h2, h3, h4⟩ := r.own j ds q
    have nb : b ≠ dd := fun z => by rw [z, hH] at h2; cases h2
    refine ⟨b, zs, h1, h2, h3, ?_⟩
    rcases h4 with h4 | h4
    · rw [upd_ne nb] at h4; exact .inl h4
    · cases h4
  · by_cases z : b = dd
    · subst z
      rw [h o q]; exact .of hH
    · exact r.fr b o (by rw [upd_ne z]; exact q) n
end
def sRetQ (m : ME) : MS := fun ρ => match m ρ with
  | .ok (d, ρ1) => .ok (.rt d ρ1)
  | _ => .stuck
end ML


namespace ML
open PySem PySem.Spec PyProof.Rows L2
theorem excCB_ok {K : PySem.W.Frag} {D : Addr} (h : excCB K D = true) : ExcC K D := by
  unfold excCB at h
  simp only [Bool.and_eq_true, decide_eq_true_eq] at h
  obtain ⟨h1, h2, h3, h4, h5, h6, h7, h8⟩ := h
  exact ⟨h1, h2, h3, h4, h5, h6, h7, h8⟩
structure TryH (K : PySem.W.Frag) (mg : Str → Option Value) (x y : Str) (fs : List Str) (own : List (Str × Bool)) (tys : List (String × Bool)) (C D : Addr) : Prop where
  at_ : mg x = some (Value.ref C)
  atY : mg y = some (Value.ref D)
  exc : ExcC K C
  xf : XfC K C
  exm : PySem.W.exmOne K (.ref C) (.ref D) = some true
  no : ∀ f ∈ fs, PySem.W.findIn K (.ref C) f = some none
  own_ : ∀ q ∈ own, ∃ B, mg q.1 = some (Value.ref B) ∧ PySem.W.kitOne K (.ref C) (.ref B) = some q.2
  tys_ : ∀ q ∈ tys, PySem.W.kitOne K (.ref C) (.type q.1) = some q.2
theorem tryC_ok {K : PySem.W.Frag} {h : Heap} {mg : Str → Option Value} (X : K.In h) (G : h.Ns mainGlobals mg) {x y : Str} {fs : List Str} {own : List (Str × Bool)} {tys : List (String × Bool)} (c : tryC K x y fs own tys = true) : TryH K mg x y fs own tys (He.ga K x) (He.ga K y) := by
  unfold tryC at c
  simp only [Bool.and_eq_true] at c
  obtain ⟨c1, c2, c3, c4, c5, c6, c7, c8⟩ := c
  refine ⟨He.glo_ok X G c1, He.glo_ok X G c2, excCB_ok c3, xfB_ok c4, of_decide_eq_true c5, fun f hf => He.eqO_ok (List.all_eq_true.mp c6 f hf), fun q hq => ?_, fun q hq => of_decide_eq_true (List.all_eq_true.mp c8 q hq)⟩
  have z := List.all_eq_true.mp c7 q hq
  rw [Bool.and_eq_true] at z
  exact ⟨_, He.glo_ok X G z.1, of_decide_eq_true z.2⟩
section
variable [Tabs] {X : Cx} {k j i : Nat} {ps : List Str} {EW : XK} {x y n q : Str} {p np pos pos1 pos' posT posR : Pos} {e e' : Expr} {es : List Expr} {m : MA}
end
section
variable [Tabs] {X : Cx} {i : Nat} {a : Addr} {oe : Obj} {d : Option Addr} {pn : List (Addr × Obj)} {fs : List (Str × D)} {x y n cn : Str} {fl : List Str} {own : List (Str × Bool)} {tys : List (String × Bool)} {C D_ : Addr} {e : Expr} {m : ME} {p np cp pos : Pos} {b : Bool}
theorem lx_isiO {q : Str} (HH : TryH X.K X.mg x y fl own tys C D_) (hz : Zc (.ref C) d oe) (hf : ∃ vs, oe.data = .fields vs) (hg : Gl X "isinstance") (hm : X.mg "isinstance" = none) (hN : X.N[i]? = some n) (hv : Vis X.env.scope n) (hq : (q, b) ∈ own) (hgq : Gl X q)
    (hdq : (q == ("__debug__" : Str)) = false := by decide) (hd1 : (n == ("__debug__" : Str)) = false := by decide) (hcd : (n == ("__classdict__" : Str)) = false := by decide)
    (he : starEach [Expr.Name n np, .Name q cp] X.env = (false, eval (.Name n np) X.env) :: starEach [.Name q cp] X.env := by rfl) (he2 : starEach [Expr.Name q cp] X.env = (false, eval (.Name q cp) X.env) :: starEach [] X.env := by rfl)
    (hpl : (backTo pos (starEach [Expr.Name q cp] X.env)).any (·.1) = false := by rfl) :
    LX X i a oe d pn fs (.Call (.Name "isinstance" p) [.Name n np, .Name q cp] [] pos) (eIsC b) := by
  obtain ⟨B, hB, hk⟩ := HH.own_ _ hq
  exact lx_isi HH.exc hz hf hg hm hN hv (pe_glob (X := X.suite a ((a, oe) :: pn)) (v := .ref B) hgq hB rfl hdq) (fun u h => h) hk hd1 hcd he he2 hpl
theorem lx_isiT {q : String} (HH : TryH X.K X.mg x y fl own tys C D_) (hz : Zc (.ref C) d oe) (hf : ∃ vs, oe.data = .fields vs) (hg : Gl X "isinstance") (hm : X.mg "isinstance" = none) (hN : X.N[i]? = some n) (hv : Vis X.env.scope n) (hq : (q, b) ∈ tys) (hgq : Gl X cn) (hmq : X.mg cn = none) (hvq : bootBuiltins cn = some (.type q))
    (hnq : cn ≠ "__name__" := by decide) (hdq : (cn == ("__debug__" : Str)) = false := by decide) (hd1 : (n == ("__debug__" : Str)) = false := by decide) (hcd : (n == ("__classdict__" : Str)) = false := by decide)
    (he : starEach [Expr.Name n np, .Name cn cp] X.env = (false, eval (.Name n np) X.env) :: starEach [.Name cn cp] X.env := by rfl) (he2 : starEach [Expr.Name cn cp] X.env = (false, eval (.Name cn cp) X.env) :: starEach [] X.env := by rfl)
    (hpl : (backTo pos (starEach [Expr.Name cn cp] X.env)).any (·.1) = false := by rfl) :
    LX X i a oe d pn fs (.Call (.Name "isinstance" p) [.Name n np, .Name cn cp] [] pos) (eIsC b) :=
  lx_isi HH.exc hz hf hg hm hN hv (pe_bltn (X := X.suite a ((a, oe) :: pn)) (v := .ty q) hgq hmq hvq rfl hnq hdq) (fun u h => h) (HH.tys_ _ hq) hd1 hcd he he2 hpl
end
@[simp] theorem sTryC_ap (F : List D → Res D) (ma : MA) (i : Nat) (cs : List Str) (hd : Str → List (Str × D) → MS) (ρ : En) : sTryC F ma i cs hd ρ = match ma ρ with
  | .ok (ds, ρ1) => (match F ds with
    | .ok _ => .ok (.nx ρ1)
    | .exn c fs => (match ρ1[i]? with
      | some none => if cs.contains c = true then goneR i (hd c fs ρ1) else .stuck
      | _ => .stuck)
    | .stuck => .stuck)
  | _ => .stuck := rfl
section
variable [Tabs]
end
end ML


namespace ML
open PySem PySem.Spec PyProof.Rows L2
variable [Tabs]

section
variable {X : Cx} {EW : XK} {rf : List Nat}
def ePop (i : Nat) : ME := fun ρ => match slotO ρ i with
  | some ds => (match ds.getLast? with
    | some d => .ok (d, ρ.set i (some (.own ds.dropLast)))
    | none => .stuck)
  | none => .stuck
@[simp] theorem ePop_ap (i : Nat) (ρ : En) : ePop i ρ = need (getO ρ[i]?) fun ds => need ds.getLast? fun d => .ok (d, ρ.set i (some (.own ds.dropLast))) := by
  unfold ePop
  rw [slotO_ap]
  cases getO ρ[i]? with
  | none => rfl
  | some ds => cases h : ds.getLast? <;> simp [need, h]

def extF (i : Nat) (d : D) (ρ : En) : Res Fl := match d with
  | .lst es => extEnd i es ρ
  | _ => .stuck
def sExtF (i : Nat) (m : ME) : MS := fun ρ => match slotO ρ i with
  | some _ => sThen m (extF i) ρ
  | none => .stuck
@[simp] theorem extF_ap (i : Nat) (es : List D) (ρ : En) : extF i (.lst es) ρ = extEnd i es ρ := rfl
@[simp] theorem sExtF_ap (i : Nat) (m : ME) (ρ : En) : sExtF i m ρ = need (getO ρ[i]?) fun _ => (m ρ).bind fun p => extF i p.1 p.2 := by
  unfold sExtF
  rw [slotO_ap]
  cases getO ρ[i]? with
  | none => rfl
  | some ds => exact sThen_ap ρ m _
end
end ML


namespace ML
open PySem PySem.Spec PyProof.Rows L2
variable [Tabs]
section
variable {X : Cx} {EW : XK} {rf : List Nat}
end
end ML


namespace ML
open PySem PySem.Spec PyProof.Rows L2
variable [Tabs]
section
variable {X : Cx} {rf : List Nat}
def gTA (n : Nat) (gs : MGs) : MG := fun d ρ => match d with
  | .tup ds => if ds.length = n then gs ds ρ else .stuck
  | .lst ds => if ds.length = n then gs ds ρ else .stuck
  | _ => .stuck
end
@[simp] theorem gTA_lst (n : Nat) (gs : MGs) (ds : List D) (ρ : En) : gTA n gs (.lst ds) ρ = if ds.length = n then gs ds ρ else .stuck := rfl
@[simp] theorem gTA_tup (n : Nat) (gs : MGs) (ds : List D) (ρ : En) : gTA n gs (.tup ds) ρ = if ds.length = n then gs ds ρ else .stuck := rfl
end ML


namespace ML
open PySem PySem.Spec PyProof.Rows L2
def bmVE : List Value := [.type "ValueError", .type "Exception", .type "BaseException", .type "object"]
structure Exc0 (K : PySem.W.Frag) (mg : Str → Option Value) (x : Str) (C : Addr) : Prop where
  at_ : mg x = some (Value.ref C)
  ex : PySem.W.excIn K C bmVE "ValueError.__new__" = true
  kp : PySem.W.keepIn K (.ref C) = true
  sub : PySem.W.subIn K (.ref C) (.type "BaseException") = some true
  typ : PySem.W.typeIn K (.ref C) = some (.type "type")
def exc0C (K : PySem.W.Frag) (x : Str) : Bool := (He.Fa.glo x).ok K && (PySem.W.excIn K (He.ga K x) bmVE "ValueError.__new__" && (PySem.W.keepIn K (.ref (He.ga K x)) && (decide (PySem.W.subIn K (.ref (He.ga K x)) (.type "BaseException") = some true) && decide (PySem.W.typeIn K (.ref (He.ga K x)) = some (.type "type")))))
theorem exc0C_ok {K : PySem.W.Frag} {h : Heap} {mg : Str → Option Value} (X : K.In h) (G : h.Ns mainGlobals mg) {x : Str} (c : exc0C K x = true) : Exc0 K mg x (He.ga K x) := by
  unfold exc0C at c
  simp only [Bool.and_eq_true, decide_eq_true_eq] at c
  obtain ⟨c1, c2, c3, c4, c5⟩ := c
  exact ⟨He.glo_ok X G c1, c2, c3, c4, c5⟩
def sRaise0 (x : Str) : MS := fun _ => .exn x []
@[simp] theorem sRaise0_ap (x : Str) (ρ : En) : sRaise0 x ρ = .exn x [] := rfl
section
variable [Tabs] {X : Cx} {EW : XK} {rf : List Nat} {k : Nat} {x : Str} {p pos pos' : Pos}
end
end ML


namespace ML
open PySem PySem.Spec PyProof.Rows L2
variable [Tabs]
section
variable {X : Cx} {i : Nat} {a : Addr} {oe : Obj} {d : Option Addr} {pn : List (Addr × Obj)} {fs : List (Str × D)}
structure LXT (X : Cx) (i : Nat) (a : Addr) (oe : Obj) (d : Option Addr) (pn : List (Addr × Obj)) (fs : List (Str × D)) (e : Expr) (m : MB) : Prop where
  run : ∀ (H0 : Hp) (vs : List (Str × V)), DX d fs vs H0 → PT (X.suite a ((a, oe) :: pn)) e (fun σ H Q => PX X i a fs vs σ H ∧ rM X E0 H0 [] RB m σ H Q)
structure LXW (X : Cx) (i : Nat) (a : Addr) (oe : Obj) (d : Option Addr) (pn : List (Addr × Obj)) (fs : List (Str × D)) (e : Expr) (m : MB) : Prop where
  run : ∀ (H0 : Hp) (vs : List (Str × V)), DX d fs vs H0 → PW (X.suite a ((a, oe) :: pn)) e (fun σ H Q => PX X i a fs vs σ H ∧ rM X E0 H0 [] RB m σ H Q)
variable {e e1 e2 : Expr} {es rest : List Expr} {m ma mb : ME} {ms : MA} {ta tb : MB} {pos : Pos}
theorem lxt_val (h : LX X i a oe d pn fs e m) (he : ∀ whole, isTrue e X.env whole = (do let v ← whole; standAt e.pos; holding [v] (truthy v)) := by intro _; rfl) : LXT X i a oe d pn fs e (bV m) :=
  ⟨fun H0 vs hd => (pt_val (h.run H0 vs hd) he).imp fun σ H Q ⟨p, q⟩ => ⟨p, tB_of q⟩⟩
theorem lxt_not (h : LXT X i a oe d pn fs e ta) : LXT X i a oe d pn fs (.UnaryOp .Not e pos) (bNot ta) := by
  refine ⟨fun H0 vs hd => (pt_not (h.run H0 vs hd)).imp fun σ H Q ⟨p, q⟩ => ⟨p, ?_⟩⟩
  refine (rM.last (R := RB) q fun a c fs => by simp).mono fun c H1 ⟨d, b, r, hb, q⟩ => ?_
  have e : c = d := r
  subst e
  cases hb
  exact q _ H1 (Same.refl H1) rfl
theorem LXW.lt (h : LXW X i a oe d pn fs e ta) : LXT X i a oe d pn fs e ta := ⟨fun H0 vs hd => (h.run H0 vs hd).pt⟩
theorem lxw_or1 (h : LXT X i a oe d pn fs e ta) : LXW X i a oe d pn fs (.BoolOp .Or [e] pos) ta := ⟨fun H0 vs hd => pw_or1 (h.run H0 vs hd)⟩
theorem lxw_or (ha : LXT X i a oe d pn fs e1 ta) (hb : LXW X i a oe d pn fs (.BoolOp .Or (e2 :: rest) pos) tb) : LXW X i a oe d pn fs (.BoolOp .Or (e1 :: e2 :: rest) pos) (bOr ta tb) := by
  refine ⟨fun H0 vs hd => (pw_or (ha.run H0 vs hd) (hb.run H0 vs hd)).imp fun σ H Q ⟨p, q⟩ => ⟨p, ?_⟩⟩
  refine (rM.then (R := RB) q).ext.mono fun c H1 ⟨xx, d, r, q⟩ => ?_
  have e : c = d := r
  subst e
  cases c with
  | false => exact ⟨p.ext xx, by simpa using q⟩
  | true =>
    simp only [if_true] at q ⊢
    exact rM.pure (R := RB) (d := true) q (Same.refl H1) rfl
def endX (X : Cx) (i : Nat) (H0 : Hp) (σ : L2.St) (H : Hp) (Dn : Ends) : Res Fl → Prop
  | .ok (.nx ρ') => ∀ σ' H', SR X.K X.mg H0 [] σ' H' ρ' → Ext H H' → σ'[i]? = σ[i]? → Dn.nx σ' H'
  | .ok (.rt d ρ') => ∀ v σ' H', SR X.K X.mg H0 [] σ' H' ρ' → Ext H H' → RD X.K X.mg H' v d → Dn.rt v H'
  | .ok (.bk ρ') => ∀ σ' H', SR X.K X.mg H0 [] σ' H' ρ' → Ext H H' → σ'[i]? = σ[i]? → Dn.bk σ' H'
  | .ok (.ct ρ') => ∀ σ' H', SR X.K X.mg H0 [] σ' H' ρ' → Ext H H' → σ'[i]? = σ[i]? → Dn.ct σ' H'
  | .exn _ _ => False
  | .stuck => False
theorem endX.ext {H0 H H1 : Hp} {σ σ1 : L2.St} {Dn : Ends} {r : Res Fl} (e : Ext H H1) (hs : σ1[i]? = σ[i]?) (h : endX X i H0 σ H Dn r) : endX X i H0 σ1 H1 Dn r := by
  cases r with
  | ok f => cases f with
    | nx ρ => exact fun σ' H' a b c => h σ' H' a (e.trans b) (c.trans hs)
    | rt d ρ => exact fun v σ' H' a b c => h v σ' H' a (e.trans b) c
    | bk ρ => exact fun σ' H' a b c => h σ' H' a (e.trans b) (c.trans hs)
    | ct ρ => exact fun σ' H' a b c => h σ' H' a (e.trans b) (c.trans hs)
  | exn c fs => exact h
  | stuck => exact h
def rX (X : Cx) (i : Nat) (a : Addr) (fs : List (Str × D)) (vs : List (Str × V)) (H0 : Hp) (m : MS) : TS := fun D σ H => PX X i a fs vs σ H ∧ ∃ ρ, SR X.K X.mg H0 [] σ H ρ ∧ endX X i H0 σ H D (m ρ)
structure LXS (X : Cx) (i : Nat) (a : Addr) (oe : Obj) (d : Option Addr) (pn : List (Addr × Obj)) (fs : List (Str × D)) (st : Stmt) (m : MS) : Prop where
  run : ∀ (H0 : Hp) (vs : List (Str × V)), DX d fs vs H0 → PS (X.suite a ((a, oe) :: pn)) st (rX X i a fs vs H0 m)
  nx : ∀ ρ c fs, m ρ ≠ .exn c fs
structure LXSs (X : Cx) (i : Nat) (a : Addr) (oe : Obj) (d : Option Addr) (pn : List (Addr × Obj)) (fs : List (Str × D)) (st : List Stmt) (m : MS) : Prop where
  run : ∀ (H0 : Hp) (vs : List (Str × V)), DX d fs vs H0 → PSs (X.suite a ((a, oe) :: pn)) st (rX X i a fs vs H0 m)
  nx : ∀ ρ c fs, m ρ ≠ .exn c fs
variable {st : Stmt} {ss b1 b2 : List Stmt} {m1 m2 : MS} {pos' : Pos}
theorem lxss_nil : LXSs X i a oe d pn fs [] sNil := by
  refine ⟨fun H0 vs hd => pss_nil.imp fun D σ H ⟨p, ρ, r, q⟩ => ?_, fun ρ c fs => by simp [sNil]⟩
  exact q σ H r (Ext.refl H) rfl
theorem lxss_one (h : LXS X i a oe d pn fs st m1) : LXSs X i a oe d pn fs [st] m1 := ⟨fun H0 vs hd => pss_one (h.run H0 vs hd), h.nx⟩
theorem lxss_cons (h1 : LXS X i a oe d pn fs st m1) (h2 : LXSs X i a oe d pn fs ss m2) : LXSs X i a oe d pn fs (st :: ss) (sSeq m1 m2) := by
  refine ⟨fun H0 vs hd => (pss_cons (h1.run H0 vs hd) (h2.run H0 vs hd)).imp fun D σ H ⟨p, ρ, r, q⟩ => ⟨p, ρ, r, ?_⟩, fun ρ c fs => by
    unfold sSeq
    cases e : m1 ρ with
    | ok f => cases f with
      | nx ρ1 => exact h2.nx ρ1 c fs
      | rt d ρ1 => simp
      | bk ρ1 => simp
      | ct ρ1 => simp
    | exn c' fs' => exact absurd e (h1.nx ρ c' fs')
    | stuck => simp⟩
  unfold sSeq at q
  cases e : m1 ρ with
  | ok f =>
    rw [e] at q
    cases f with
    | nx ρ1 => exact fun σ' H' r1 x1 hs => ⟨⟨hs.trans p.sl, p.rd.ext x1⟩, ρ1, r1, q.ext x1 hs⟩
    | rt d ρ1 => exact q
    | bk ρ1 => exact q
    | ct ρ1 => exact q
  | exn c fs => rw [e] at q; exact q
  | stuck => rw [e] at q; exact q
def sThenQ {α : Type} (m : En → Res (α × En)) (k : α → MS) : MS := fun ρ => match m ρ with
  | .ok (a, ρ1) => k a ρ1
  | _ => .stuck
theorem rX.then {α β : Type} {R : β → α → Hp → Prop} {m : En → Res (α × En)} {k : α → MS} {H0 : Hp} {Dn : Ends} {σ : L2.St} {H : Hp} (h : ∃ ρ, SR X.K X.mg H0 [] σ H ρ ∧ endX X i H0 σ H Dn (sThenQ m k ρ)) :
    rM X E0 H0 [] R m σ H fun v H1 => ∃ d ρ, R v d H1 ∧ SR X.K X.mg H0 [] σ H1 ρ ∧ Ext H H1 ∧ endX X i H0 σ H1 Dn (k d ρ) := by
  obtain ⟨ρ, r, h⟩ := h
  refine ⟨ρ, r, ?_⟩
  unfold sThenQ at h
  cases e : m ρ with
  | ok p =>
    obtain ⟨d, ρ1⟩ := p
    rw [e] at h
    exact fun v H1 r1 e1 rv => ⟨d, ρ1, rv, r1, e1, h.ext e1 rfl⟩
  | exn c fs => rw [e] at h; exact h.elim
  | stuck => rw [e] at h; exact h.elim
theorem lxs_ret (h : LX X i a oe d pn fs e m) : LXS X i a oe d pn fs (.Return (some e) pos) (sRetQ m) := by
  have e0 : sRetQ m = sThenQ m fun d ρ => .ok (.rt d ρ) := by
    funext ρ
    unfold sRetQ sThenQ
    cases m ρ <;> rfl
  refine ⟨fun H0 vs hd => (ps_ret (h.run H0 vs hd)).imp fun D σ H ⟨p, q⟩ => ⟨p, ?_⟩, fun ρ c fs => by unfold sRetQ; split <;> simp⟩
  rw [e0] at q
  exact (rX.then (R := RE X) q).mono fun v H1 ⟨d, ρ, rd, r, x, q⟩ => q v σ H1 r (Ext.refl H1) rd
def sSetQ (j : Nat) (m : ME) : MS := sThenQ m fun d ρ => .ok (.nx (ρ.set j (some (.dat d))))
def sIfQ (c : MB) (a b : MS) : MS := sThenQ c fun t => if t = true then a else b
theorem lxs_if (hc : LXT X i a oe d pn fs e ta) (ha : LXSs X i a oe d pn fs b1 m1) (hb : LXSs X i a oe d pn fs b2 m2) : LXS X i a oe d pn fs (.If e b1 b2 pos) (sIfQ ta m1 m2) := by
  refine ⟨fun H0 vs hd => (ps_if (hc.run H0 vs hd) (ha.run H0 vs hd) (hb.run H0 vs hd)).imp fun D σ H ⟨p, q⟩ => ⟨p, ?_⟩, fun ρ c fs => by
    unfold sIfQ sThenQ
    split
    · rename_i t ρ1 _
      cases t with
      | true => exact ha.nx ρ1 c fs
      | false => exact hb.nx ρ1 c fs
    · simp⟩
  refine (rX.then (R := RB) q).mono fun t H1 ⟨d, ρ, rd, r, x, q⟩ => ?_
  have e : t = d := rd
  subst e
  cases t with
  | true => exact ⟨p.ext x, ρ, r, q⟩
  | false => exact ⟨p.ext x, ρ, r, q⟩
theorem endX.of {H0 H : Hp} {σ : L2.St} {Dn : Ends} {r : Res Fl} (hn : ∀ c fs, r ≠ .exn c fs) (h : endS X E0 H0 [] H Dn r) : endX X i H0 σ H Dn r := by
  cases r with
  | ok f => cases f with
    | nx ρ => exact fun σ' H' a b _ => h σ' H' a b
    | rt d ρ => exact fun v σ' H' a b c => h v σ' H' a b c
    | bk ρ => exact fun σ' H' a b _ => h σ' H' a b
    | ct ρ => exact fun σ' H' a b _ => h σ' H' a b
  | exn c fs => exact absurd rfl (hn c fs)
  | stuck => exact h
end
end ML


namespace ML
open PySem PySem.Spec PyProof.Rows L2
variable [Tabs]
def hdL (l : List (Str × (List (Str × D) → MS))) (c : Str) (fs : List (Str × D)) : MS := match l.lookup c with
  | some m => m fs
  | none => fun _ => .stuck
@[simp] theorem hdL_cons (q : Str) (m : List (Str × D) → MS) (l : List (Str × (List (Str × D) → MS))) (c : Str) (fs : List (Str × D)) : hdL ((q, m) :: l) c fs = if (c == q) = true then m fs else hdL l c fs := by
  unfold hdL
  rw [List.lookup_cons]
  cases c == q <;> rfl
section
variable {X : Cx} {i : Nat} {ss : List Stmt}
def SuiteOk (X : Cx) (i : Nat) (ss : List Stmt) (hd : Str → List (Str × D) → MS) : Prop :=
  ∀ (c : Str) (fs : List (Str × D)) (C : Addr) (a : Addr) (oe : Obj) (d : Option Addr) (pn : List (Addr × Obj)), X.mg c = some (Value.ref C) → Zc (.ref C) d oe → (∃ vs, oe.data = .fields vs) → LXSs X i a oe d pn fs ss (hd c fs) ∨ hd c fs = fun _ => .stuck
theorem suiteOk_nil : SuiteOk X i ss (hdL []) := fun _ _ _ _ _ _ _ _ _ _ => .inr rfl
theorem suiteOk_cons {q y : Str} {fl : List Str} {own : List (Str × Bool)} {tys : List (String × Bool)} {C D_ : Addr} {mm : List (Str × D) → MS} {l : List (Str × (List (Str × D) → MS))} (HH : TryH X.K X.mg q y fl own tys C D_)
    (h : ∀ (fs : List (Str × D)) (a : Addr) (oe : Obj) (d : Option Addr) (pn : List (Addr × Obj)), Zc (.ref C) d oe → (∃ vs, oe.data = .fields vs) → LXSs X i a oe d pn fs ss (mm fs)) (t : SuiteOk X i ss (hdL l)) : SuiteOk X i ss (hdL ((q, mm) :: l)) := by
  intro c fs C' a oe d pn hC hz hv
  rw [hdL_cons]
  by_cases hc : c = q
  · subst hc
    rw [HH.at_] at hC
    cases hC
    rw [if_pos (beq_self_eq_true c)]
    exact .inl (h fs a oe d pn hz hv)
  · rw [if_neg (by simpa using hc)]
    exact t c fs C' a oe d pn hC hz hv
theorem suite_all {hd : Str → List (Str × D) → MS} (h : SuiteOk X i ss hd)
    (a : Addr) (oe : Obj) (cls : Value) (d : Option Addr) (pn : List (Addr × Obj)) (hz : Zc cls d oe) (hf : ∃ vs, oe.data = .fields vs) : PSs (X.suite a ((a, oe) :: pn)) ss (tSuite X [] i hd a cls d) := by
  refine ⟨fun pins s σ H D I ⟨c, fs, ρ, H0, A, hA, ex, na, hs, hn, r, q⟩ => ?_⟩
  obtain rfl : A = [] := List.map_eq_nil_iff.mp hA
  obtain ⟨C, hmC, rfl, hx⟩ := ex
  have key : ∀ (H1 : Hp) (vs : List (Str × V)), DX d fs vs H1 → RDs X.K X.mg H (vs.map (·.2)) (fs.map (·.2)) → SR X.K X.mg H1 [] σ H ρ → (∀ σ' H' ρ', SR X.K X.mg H1 [] σ' H' ρ' → SR X.K X.mg H0 [] σ' H' ρ') → wpAny (model X.prog X.w) (X.suite a ((a, oe) :: pn)).A (execs ss X.env) (SP (X.suite a ((a, oe) :: pn)) pins D) (X.suite a ((a, oe) :: pn)).xe s := by
    intro H1 vs dx rd sr back
    rcases h c fs C a oe d pn hmC hz hf with hl | hl
    · refine (hl.run H1 vs dx).run pins s σ H D I ⟨⟨hs, rd⟩, ρ, sr, ?_⟩
      have q2 : endX X i H0 σ H D (hd c fs ρ) := endX.of (hl.nx ρ) q
      cases em : hd c fs ρ with
      | ok f =>
        rw [em] at q2
        cases f with
        | nx ρ1 => exact fun σ' H' sr' x e => q2 σ' H' (back _ _ _ sr') x e
        | rt dv ρ1 => exact fun v σ' H' sr' x rv => q2 v σ' H' (back _ _ _ sr') x rv
        | bk ρ1 => exact fun σ' H' sr' x e => q2 σ' H' (back _ _ _ sr') x e
        | ct ρ1 => exact fun σ' H' sr' x e => q2 σ' H' (back _ _ _ sr') x e
      | exn c' fs' => exact absurd em (hl.nx ρ c' fs')
      | stuck => rw [em] at q2; exact q2.elim
    · rw [hl] at q
      exact q.elim
  cases d with
  | none => exact key H0 [] ⟨by simp only at hx; rw [hx]; rfl, hx⟩ (by simp only at hx; rw [hx]; exact .nil) r fun _ _ _ z => z
  | some dd =>
    obtain ⟨vs, h1, h2, h3⟩ := hx
    refine key (upd H0 dd (.xd vs)) vs ⟨h2, upd_same⟩ h3 (r.fld h1) fun σ' H' ρ' z => z.unfld fun o ho => ?_
    have k := r.fr dd o ho (by simp)
    rcases k with k | ⟨ps, more, rfl, k⟩
    · rw [h1] at k; exact (Option.some.inj k).symm
    · rw [h1] at k; cases k
def CatOk (K : PySem.W.Frag) (mg : Str → Option Value) (y : Str) (cs : List Str) : Prop := ∃ Dy, mg y = some (Value.ref Dy) ∧ ∀ q ∈ cs, ∀ C, mg q = some (Value.ref C) → PySem.W.exmOne K (.ref C) (.ref Dy) = some true
theorem catOk_one {K : PySem.W.Frag} {mg : Str → Option Value} {q y : Str} {fl : List Str} {own : List (Str × Bool)} {tys : List (String × Bool)} {C D_ : Addr} (HH : TryH K mg q y fl own tys C D_) : CatOk K mg y [q] := by
  refine ⟨D_, HH.atY, fun r hr B hB => ?_⟩
  rw [List.mem_singleton] at hr
  subst hr
  rw [HH.at_] at hB
  cases hB
  exact HH.exm
end
section
variable {X : Cx} {k j i : Nat} {ps : List Str} {EW : XK} {x y n : Str} {p np pos pos1 pos' posT : Pos} {e : Expr} {es : List Expr} {m : MA} {b₀ : Stmt} {suite : List Stmt}
end
@[simp] theorem sThenQ_ap {α : Type} (m : En → Res (α × En)) (k : α → MS) (ρ : En) : sThenQ m k ρ = (m ρ).keep.bind fun p => k p.1 p.2 := by
  unfold sThenQ
  cases h : m ρ <;> rfl
@[simp] theorem sSetQ_ap (j : Nat) (m : ME) (ρ : En) : sSetQ j m ρ = (m ρ).keep.bind fun p => .ok (.nx (p.2.set j (some (.dat p.1)))) := sThenQ_ap _ _ _
@[simp] theorem sIfQ_ap (c : MB) (a b : MS) (ρ : En) : sIfQ c a b ρ = (c ρ).keep.bind fun p => (if p.1 = true then a else b) p.2 := sThenQ_ap _ _ _
@[simp] theorem sRetQ_ap (m : ME) (ρ : En) : sRetQ m ρ = (m ρ).keep.bind fun p => .ok (.rt p.1 p.2) := by
  unfold sRetQ
  cases h : m ρ <;> rfl
end ML


namespace ML
open PySem PySem.Spec PyProof.Rows L2
variable [Tabs]
section
open AutoSeq1 (wpAny_loadPart')
set_option maxHeartbeats 4000000 in
theorem tuple_mul0 (l : Addr) (items : Array Value) (n : Nat) (dd : Option Addr) (sl : Array (Option Value)) (x : Int) (u : Tok) (c0 : (decide (x < -(2 ^ 63)) || decide (x ≥ 2 ^ 63)) = false) (c1 : (items.isEmpty || x == 1) = false) (c2 : (decide (x ≤ 0) || items.isEmpty) = true) :
    Meets (Builtin.«tuple.__mul__» ⟨[.ref l, .int x u], []⟩) (fun _ R s => s.heap.get? l = some { cls := .type "tuple", dict := dd, data := .seq items n, slots := sl } ∧
      R (.ok (.ret (Value.ref s.heap.objs.size))) { s with heap := s.heap.push { cls := Value.type "tuple", data := Data.seq #[] }, toks := s.toks }) :=
  .of_wp fun prog w A R s h => by
    obtain ⟨hp, g, d, tk, os⟩ := s
    obtain ⟨hl, h⟩ := h
    have f1 := AutoSeq1.idx_int
    wp_walk using wpAny_loadPart' hl
    repeat (first
      | (refine wpAny_ite_false (decide_eq_false (by rw [c0]; exact Bool.false_ne_true)) ?_; wp_walk using wpAny_loadPart' hl)
      | (refine wpAny_ite_false (decide_eq_false (by rw [c1]; exact Bool.false_ne_true)) ?_; wp_walk using wpAny_loadPart' hl)
      | (refine wpAny_ite_true (decide_eq_true c2) ?_; wp_walk using wpAny_loadPart' hl))
    exact ⟨_, rfl, h⟩
set_option maxHeartbeats 4000000 in
theorem tuple_mulE (l : Addr) (items : Array Value) (n : Nat) (dd : Option Addr) (sl : Array (Option Value)) (x : Int) (u : Tok) (c0 : (decide (x < -(2 ^ 63)) || decide (x ≥ 2 ^ 63)) = false) (c1 : (items.isEmpty || x == 1) = true) :
    Meets (Builtin.«tuple.__mul__» ⟨[.ref l, .int x u], []⟩) (fun _ R s => s.heap.get? l = some { cls := .type "tuple", dict := dd, data := .seq items n, slots := sl } ∧
      R (.ok (.ret (Value.ref l))) s) :=
  .of_wp fun prog w A R s h => by
    obtain ⟨hp, g, d, tk, os⟩ := s
    obtain ⟨hl, h⟩ := h
    have f1 := AutoSeq1.idx_int
    wp_walk using wpAny_loadPart' hl
    repeat (first
      | (refine wpAny_ite_false (decide_eq_false (by rw [c0]; exact Bool.false_ne_true)) ?_; wp_walk using wpAny_loadPart' hl)
      | (refine wpAny_ite_true (decide_eq_true c1) ?_; wp_walk using wpAny_loadPart' hl))
    exact ⟨_, rfl, h⟩
end
theorem op_rep0 {X : Cx} : OpR X (binaryOp .Mult) (fun x y H Q => ∃ l k xs, x = .ref l ∧ y = .int k ∧ SqT X.K H l xs ∧ -(2 ^ 62) ≤ k ∧ k < 2 ^ 62 ∧ ((xs ≠ [] ∧ k ≤ 0 ∧ ∀ p o, H p = none → o.dict = none → Q (.ref p) (upd H p (.frz o (.tup [])))) ∨ (xs = [] ∧ Q (.ref l) H))) := by
  intro pins s σ H x y v u Q I rx ry ⟨l, k, xs, ex, ey, hT, k1, k2, q⟩
  subst ex ey
  cases rx
  obtain ⟨t, rfl⟩ := ry
  obtain ⟨its, r, ⟨⟨oc, dd, od, osl⟩, ho, hc, n, hd⟩, _⟩ := I.tuple hT
  cases (show oc = _ from hc)
  cases (show od = _ from hd)
  have el : its.length = xs.length := r.length.symm
  have d0 : (decide (k < -(2 ^ 63)) || decide (k ≥ 2 ^ 63)) = false := by
    rw [decide_eq_false (by omega), decide_eq_false (by omega)]; rfl
  rcases q with ⟨hne, k0, q⟩ | ⟨he, q⟩
  · have ne : its ≠ [] := fun e => hne (List.eq_nil_of_length_eq_zero (by rw [← el, e]; rfl))
    have em : its.toArray.isEmpty = false := by
      cases its with
      | nil => exact absurd rfl ne
      | cons a b => rfl
    have d1 : (its.toArray.isEmpty || k == 1) = false := by
      rw [em, Bool.false_or]; exact beq_eq_false_iff_ne.mpr (by omega)
    have d2 : (decide (k ≤ 0) || its.toArray.isEmpty) = true := by
      rw [decide_eq_true k0]; rfl
    refine wpAny_binaryOp_repeat_ref (T := "tuple") (U := "int") (by decide) ⟨_, ho, rfl⟩ (fun s' => typeIs_int s' k t) noFill_tuple_mul F.fills_int_mul F.slot_int_rmul repeat_tuple F.slot_int_index.lookup
      (call_meets F.slot_int_rmul (typeIs_int s k t) F.entry_int_rmul (F.args_int_rmul_2 _ _) (int_rmul_tuple k t l its.toArray n dd osl)
        ⟨ho, rfl, ⟨_, ho, rfl⟩, call_meets F.slot_tuple_mul ⟨_, ho, rfl⟩ F.entry_tuple_mul (F.args_tuple_mul_2 _ _) (tuple_mul0 l its.toArray n dd osl k t d0 d1 d2) ⟨ho, ?_⟩⟩)
    exact ⟨.ref s.heap.objs.size, _, nT (xs := []) (its := []) (t' := s.toks) I (fun b u q => Heap.get?_push_of_some _ q) (Nat.zero_le _) .nil (Heap.get?_push_size _ rfl), rfl, q _ _ (I.hok.fresh (Nat.le_refl _)) rfl⟩
  · have em : its.toArray.isEmpty = true := by
      rw [he] at el
      have : its = [] := List.eq_nil_of_length_eq_zero el
      rw [this]; rfl
    have d1 : (its.toArray.isEmpty || k == 1) = true := by rw [em]; rfl
    refine wpAny_binaryOp_repeat_ref (T := "tuple") (U := "int") (by decide) ⟨_, ho, rfl⟩ (fun s' => typeIs_int s' k t) noFill_tuple_mul F.fills_int_mul F.slot_int_rmul repeat_tuple F.slot_int_index.lookup
      (call_meets F.slot_int_rmul (typeIs_int s k t) F.entry_int_rmul (F.args_int_rmul_2 _ _) (int_rmul_tuple k t l its.toArray n dd osl)
        ⟨ho, rfl, ⟨_, ho, rfl⟩, call_meets F.slot_tuple_mul ⟨_, ho, rfl⟩ F.entry_tuple_mul (F.args_tuple_mul_2 _ _) (tuple_mulE l its.toArray n dd osl k t d0 d1) ⟨ho, ?_⟩⟩)
    exact ⟨.ref l, H, I, rfl, q⟩
theorem op_strMul {X : Cx} : OpR X (binaryOp .Mult) (fun x y H Q => ∃ a k, x = .str a ∧ y = .int k ∧ ((k = 0 ∧ Q (.str Str.empty) H) ∨ (k = 1 ∧ Q (.str a) H))) := by
  intro pins s σ H x y v u Q I rx ry ⟨a, k, ex, ey, q⟩
  subst ex ey
  obtain ⟨t, rfl⟩ := rx
  obtain ⟨t', rfl⟩ := ry
  rcases q with ⟨rfl, q⟩ | ⟨rfl, q⟩
  · refine PySem.P.mul_str_none (by omega) (by omega) ?_
    exact ⟨.str Str.empty, H, I.kept (t' := s.toks + 1) (fun _ _ z => z), ⟨_, rfl⟩, q⟩
  · refine PySem.P.mul_str (by decide) (fun _ h => by simp at h) (fun _ h => by simp at h) ?_
    rw [if_neg (by omega), if_pos (by simp)]
    exact ⟨.str a, H, I, ⟨_, rfl⟩, q⟩
def mulXD (x y : D) : Res D := match x, y with
  | .tup a, .int k => if k ≤ 0 ∧ -(2 ^ 62) ≤ k then .ok (.tup []) else if a = [] ∧ 0 < k ∧ k < 2 ^ 62 then .ok (.tup []) else mulD (.tup a) (.int k)
  | .str a, .int k => if k = 0 then .ok (.str Str.empty) else if k = 1 then .ok (.str a) else .stuck
  | x, y => mulD x y
theorem mulD_nx (a b : D) (c : Str) (fs : List (Str × D)) : mulD a b ≠ .exn c fs := by
  unfold mulD; split <;> (try split) <;> simp
theorem op2_mulXD {X : Cx} : Op2 X (binaryOp .Mult) mulXD := by
  refine ⟨fun a b c fs => by unfold mulXD; split <;> (try split) <;> (try split) <;> first | exact mulD_nx _ _ _ _ | simp, fun pins s σ H x y v u Q I rx ry ⟨dx, dy, d, hx, hy, hg, q⟩ => ?_⟩
  have base : mulD dx dy = .ok d → _ := fun hg => op2_mul.2 pins s σ H x y v u Q I rx ry ⟨dx, dy, d, hx, hy, hg, q⟩
  unfold mulXD at hg
  split at hg
  · rename_i a' k'
    split at hg
    · rename_i hk
      cases hg
      cases hy
      cases hx with
      | @tup l xs _ ht r =>
        refine op_rep0 pins s σ H _ _ v u Q I rx ry ⟨_, _, _, rfl, rfl, ht.seq, hk.2, by omega, ?_⟩
        by_cases hn : xs = []
        · subst hn
          cases r
          exact .inr ⟨rfl, q _ H (Same.refl H) (.tup ht .nil)⟩
        · exact .inl ⟨hn, hk.1, fun p o hp hd => new_tuple hp hd .nil q⟩
    · rename_i hk
      split at hg
      · rename_i he
        obtain ⟨rfl, h1, h2⟩ := he
        cases hg
        cases hy
        cases hx with
        | tup ht r =>
          cases r
          exact op_rep0 pins s σ H _ _ v u Q I rx ry ⟨_, _, _, rfl, rfl, ht.seq, by omega, h2, .inr ⟨rfl, q _ H (Same.refl H) (.tup ht .nil)⟩⟩
      · exact base hg
  · split at hg
    · rename_i hk
      cases hg; cases hx; cases hy
      exact op_strMul pins s σ H _ _ v u Q I rx ry ⟨_, _, rfl, rfl, .inl ⟨hk, q _ H (Same.refl H) (.str _)⟩⟩
    · split at hg
      · rename_i hk
        cases hg; cases hx; cases hy
        exact op_strMul pins s σ H _ _ v u Q I rx ry ⟨_, _, rfl, rfl, .inr ⟨hk, q _ H (Same.refl H) (.str _)⟩⟩
      · cases hg
  · exact base hg
@[simp] theorem mulXD_str (a : Str) (k : Int) : mulXD (.str a) (.int k) = if k = 0 then .ok (.str Str.empty) else if k = 1 then .ok (.str a) else .stuck := rfl
end ML


namespace ML
open PySem PySem.Spec PyProof.Rows L2
variable [Tabs]
theorem Cok.e0 {X : Cx} {EW : XK} {k : Nat} (c : Cok X EW k) : Cok X E0 k :=
  ⟨c.hc, c.hg, c.hr, c.nd, passL, c.ow, fun u s' ⟨_, _, _, _, _, _, _, _, _, _, _, _, _, _, _, _, z⟩ => z.elim⟩
end ML


namespace ML
open PySem PySem.Spec PyProof.Rows L2
variable [Tabs]
section
variable {X : Cx} {EW : XK} {rf : List Nat}
end
end ML


namespace ML
open PySem PySem.Spec PyProof.Rows L2
variable [Tabs]
end ML


namespace ML
open PySem PySem.Spec PyProof.Rows L2
variable [Tabs]
section
variable {X : Cx} {EW : XK} {rf : List Nat} {H : Hp}
end
end ML


namespace ML
open PySem PySem.Spec PyProof.Rows L2
theorem _root_.PySem.Draws.shift {prog : Program} {w : World} {A : Around} {it : Addr} {fp : List Addr} {n : Nat} {P : Nat → Value → Prop} {St : Nat → Heap → Prop} (D : Draws prog w A it fp n P St) (p : Nat) : Draws prog w A it fp (n + p) (fun j x => P (j - p) x) (fun j h => ∃ i, j = i + p ∧ St i h) where
  live := fun i h ⟨j, _, st⟩ => D.live j h st
  frame := fun i h h' ⟨j, e, st⟩ k => ⟨j, e, D.frame j h h' st k⟩
  item := fun i s Q E hi ⟨j, e, st⟩ hQ => D.item j s Q E (by omega) st fun x h' tk hp hs sb => hQ x h' tk (by rw [e, Nat.add_sub_cancel]; exact hp) ⟨j + 1, by omega, hs⟩ sb
  done := fun s Q E ⟨j, e, st⟩ hE => D.done s Q E (by have : n = j := by omega
                                                      rw [this]; exact st) hE
section
variable [Tabs] {prog : Program} {w : World} {A : Around} {E : Value → Shared → Prop} {s : Shared}
end
variable [Tabs]
section
open PySem.Calls
end
section
variable {X : Cx} {EW : XK} {rf : List Nat} {H : Hp}
end
end ML


namespace ML
open PySem PySem.Spec PyProof.Rows L2
variable [Tabs]
section
variable {X : Cx}
end
end ML


set_option maxHeartbeats 2000000
namespace ML
open PySem PySem.Spec PyProof.Rows HT
section
variable {prog : Program} {w : World} {A : Around} {E : Value → Shared → Prop} {s : Shared}
end
end ML
namespace ML
open PySem PySem.Spec PyProof.Rows L2
variable [Tabs]
section
variable {X : Cx} {EW : XK} {rf : List Nat}
end
end ML


namespace ML
open PySem PySem.Spec PyProof.Rows L2
variable [Tabs]
def noneE (ρ : En) : En := ρ.map fun _ => none
def datE (ρ : En) : Bool := ρ.all fun x => match x with
  | none => true
  | some (.dat _) => true
  | _ => false
def goneB : Option (Option MV) → Bool
  | some none => true
  | _ => false
theorem goneB_eq {x : Option (Option MV)} (h : goneB x = true) : x = some none := by
  cases x with
  | none => cases h
  | some y => cases y with
    | none => rfl
    | some z => cases h
def sTryG (mb : MS) (i : Nat) (cs : List Str) (hd : Str → List (Str × D) → MS) : MS := fun ρ => if datE ρ = true then (match mb ρ with
  | .ok f => .ok f
  | .exn c fs => if goneB ρ[i]? = true then (if cs.contains c = true then goneR i (hd c fs (noneE ρ)) else .stuck) else .stuck
  | .stuck => .stuck) else .stuck
theorem Takes.sized {X : Cx} {W W' : WX} (t : Takes X W) (h : ∀ c d σ H, σ.length = X.N.length → W' c d σ H → W c d σ H) : Takes X W' := fun u s' ⟨a, B, sI, pins, σ, H, cls, d, e, I, nb, up, sky, na, os, ag, w⟩ =>
  t u s' ⟨a, B, sI, pins, σ, H, cls, d, e, I, nb, up, sky, na, os, ag, h _ _ _ _ I.len w⟩
theorem Cok.trW {X : Cx} {EW EW' : XK} {k : Nat} (c : Cok X EW k) (pn : List (Addr × Obj)) (xe : Value → Shared → Prop) (ow : PassesOwn (model X.prog X.w) X.A X.env xe) (tk : Takes (X.tr pn xe) (fun cls d _ H => EW' cls d H)) : Cok (X.tr pn xe) EW' k :=
  ⟨c.hc, c.hg, c.hr, c.nd, fun pins σ H s e s' I cx => tk e s' (XE.of_call I (fun cls d H' h => h) cx), ow, tk⟩
section
variable {K : PySem.W.Frag} {mg : Str → Option Value} {H0 H H' : Hp} {σ σ' : L2.St} {ρ ρ' : En}
theorem datE_at (h : datE ρ = true) {i : Nat} {x : MV} (e : ρ[i]? = some (some x)) : ∃ d, x = .dat d := by
  have := List.all_eq_true.mp h _ (List.mem_of_getElem? e)
  cases x with
  | dat d => exact ⟨d, rfl⟩
  | own ds => cases this
  | nst rows => cases this
  | ins c nn dd => cases this
theorem SR.here (r : SR K mg H0 [] σ H ρ) (h : datE ρ = true) : SR K mg H [] σ H ρ := by
  refine ⟨r.len, r.dat, fun i ds e => ?_, fun i j ds ds' a n e => ?_, fun b o e _ => .of e, fun p hp => absurd hp (by simp), fun p hp => absurd hp (by simp), r.tb, fun i ar k e => ?_, fun i c nn dd e => ?_⟩
  · obtain ⟨d, z⟩ := datE_at h e; cases z
  · obtain ⟨d, z⟩ := datE_at h e; cases z
  · obtain ⟨d, z⟩ := datE_at h e; cases z
  · obtain ⟨d, z⟩ := datE_at h e; cases z
theorem SR.back (k : ∀ b o, H0 b = some o → Kp o (H b)) (r : SR K mg H [] σ' H' ρ') : SR K mg H0 [] σ' H' ρ' := by
  have nw : ∀ a, H a = none → H0 a = none := fun a h => by
    cases e : H0 a with
    | none => rfl
    | some o =>
      obtain ⟨u, z⟩ := (k a o e).any
      rw [h] at z; cases z
  refine ⟨r.len, r.dat, fun i ds e => ?_, r.ap, fun b o e n => (k b o e).step fun u z => r.fr b u z n, r.ref, r.liv, r.tb, r.nst.entry (fun b na => nw b na.new), r.ins.entry fun b q _ => nw b q⟩
  · obtain ⟨a, xs, h1, h2, h3, h4⟩ := r.own i ds e
    exact ⟨a, xs, h1, h2, h3, h4.imp (nw a) id⟩
theorem SR.none (f : FrA H [] H') (hl : ρ.length = σ'.length) : SR K mg H [] σ' H' (noneE ρ) := by
  have no : ∀ (i : Nat) (x : MV), ¬ (noneE ρ)[i]? = some (some x) := fun i x e => by
    unfold noneE at e
    rw [List.getElem?_map] at e
    cases h : ρ[i]? with
    | none => rw [h] at e; cases e
    | some z => rw [h] at e; cases e
  refine ⟨by unfold noneE; rw [List.length_map]; exact hl, fun i d e => absurd e (no i _), fun i ds e => absurd e (no i _), fun i j ds ds' a n e => absurd e (no i _), fun b o e n => f.kp b o e n, fun p hp => absurd hp (by simp), fun p hp => absurd hp (by simp), f.tb, fun i ar k e => absurd e (no i _), fun i c nn dd e => absurd e (no i _)⟩
theorem FrA.ext (f : FrA H [] H') : Ext H H' := ⟨fun b xs h => (f.kp b _ h (by simp)).is (by intro ps z; cases z), fun b o u h => (f.kp b _ h (by simp)).is (by intro ps z; cases z)⟩
end
section
variable {X : Cx} {k i : Nat} {EW : XK} {y n : Str} {np pos' posT : Pos} {body : List Stmt} {mb : MS} {b₀ : Stmt} {suite : List Stmt}
theorem ls_tryG {cs : List Str} {hd : Str → List (Str × D) → MS} (hc : CatOk X.K X.mg y cs) (hsu : SuiteOk X i (b₀ :: suite) hd) (c : Cok X EW k)
    (hb : ∀ (pn : List (Addr × Obj)) (xe : Value → Shared → Prop) (EW' : XK), Cok (X.tr pn xe) EW' k → LSs (X.tr pn xe) EW' [] body mb)
    (hs : X.stack = X.env :: X.outer) (hf : X.env.frame = some X.env.locals) (hi : X.N[i]? = some n) (hln : X.env.kindOf n = some .local) (hgy : Gl X y) (hdy : (y == ("__debug__" : Str)) = false) :
    LS X EW [] (.Try body [.ExceptHandler (some (.Name y np)) (some n) (b₀ :: suite) pos'] [] [] posT) (sTryG mb i cs hd) := by
  obtain ⟨Dy, hy, hcat⟩ := hc
  refine ⟨fun H0 A hA => ?_⟩
  obtain rfl : A = [] := List.map_eq_nil_iff.mp hA
  have T := fun Hs : Hp => ps_try_as (X := X) (x := y) (n := n) (c := .ref Dy) (i := i) (np := np) (pos := posT) (pos' := pos') (ts := fun a cls d => tSuite X [] i hd a cls d) (Wout := fun _ _ _ _ => False) (b₀ := b₀) (suite := suite) (body := body)
    (tb := fun W => rS X (fun cls d H => ∀ σ : L2.St, σ.length = X.N.length → W cls d σ H) Hs [] mb)
    hs hf c.nd hi hln ⟨hgy, hdy, .inl hy⟩ (fun u s' ⟨_, _, _, _, _, _, _, _, _, _, _, _, _, _, _, _, z⟩ => z.elim)
    (fun W pn xe tk ow => (hb pn xe (fun cls d H => ∀ σ : L2.St, σ.length = X.N.length → W cls d σ H) (c.trW pn xe ow (Takes.sized tk fun c d σ H hl w => w σ hl))).run Hs [] rfl) (fun a oe cls d pn hz hv => suite_all hsu a oe cls d pn hz hv)
  refine ⟨fun pins s σ H D I h => (T H).run pins s σ H D I ?_⟩
  obtain ⟨ρ, r, q⟩ := h
  have lσ := I.len
  unfold sTryG at q
  by_cases hd' : datE ρ = true
  · rw [if_pos hd'] at q
    have kp : ∀ b o, H0 b = some o → Kp o (H b) := fun b o e => r.fr b o e (by simp)
    refine ⟨ρ, r.here hd', ?_⟩
    cases em : mb ρ with
    | ok f =>
      rw [em] at q
      cases f with
      | nx ρ1 => exact fun σ' H' a b => q σ' H' (a.back kp) b
      | rt dv ρ1 => exact fun v σ' H' a b rv => q v σ' H' (a.back kp) b rv
      | bk ρ1 => exact fun σ' H' a b => q σ' H' (a.back kp) b
      | ct ρ1 => exact fun σ' H' a b => q σ' H' (a.back kp) b
    | stuck => rw [em] at q; exact q.elim
    | exn c' fs =>
      rw [em] at q
      simp only at q
      intro cls dd H' ex fr σ' hl
      by_cases hnb : goneB ρ[i]? = true
      · rw [if_pos hnb] at q
        have hn := goneB_eq hnb
        by_cases hcs : cs.contains c' = true
        · rw [if_pos hcs] at q
          obtain ⟨C, hmC, hcl, hrest⟩ := id ex
          have hlen : ρ.length = σ'.length := by rw [r.len, lσ, hl]
          have hlt : i < ρ.length := by
            rcases Nat.lt_or_ge i ρ.length with h | h
            · exact h
            · rw [List.getElem?_eq_none h] at hn; cases hn
          refine ⟨true, by rw [hcl]; exact hcat c' (by simpa using hcs) C hmC, fun _ a na => ?_, fun z => by cases z⟩
          refine ⟨c', fs, noneE ρ, H0, [], rfl, ex, na, List.getElem?_set_self (by omega), ?_, ?_, endS.gone (by simp) fr.ext q⟩
          · unfold noneE
            rw [List.getElem?_map, hn]; rfl
          · exact (SR.none fr (by rw [List.length_set]; exact hlen)).back kp
        · rw [if_neg hcs] at q; exact q.elim
      · rw [if_neg hnb] at q; exact q.elim
  · rw [if_neg hd'] at q; exact q.elim
end
@[simp] theorem sTryG_ap (mb : MS) (i : Nat) (cs : List Str) (hd : Str → List (Str × D) → MS) (ρ : En) : sTryG mb i cs hd ρ = if datE ρ = true then (match mb ρ with
  | .ok f => .ok f
  | .exn c fs => if goneB ρ[i]? = true then (if cs.contains c = true then goneR i (hd c fs (noneE ρ)) else .stuck) else .stuck
  | .stuck => .stuck) else .stuck := rfl
end ML


namespace ML
open PySem PySem.Spec PyProof.Rows L2
section
variable {prog : Program} {w : World} {A : Around} {E : Value → Shared → Prop} {s : Shared}
end
variable [Tabs]
section
variable {X : Cx} {EW : XK} {rf : List Nat}
end
end ML


namespace ML
open PySem PySem.Spec PyProof.Rows L2
variable [Tabs]
section
variable {X : Cx} {i : Nat} {a : Addr} {oe : Obj} {d : Option Addr} {pn : List (Addr × Obj)} {fs : List (Str × D)}
def sAppQ (j : Nat) (m : ME) : MS := fun ρ => match slotO ρ j with
  | some _ => sThenQ m (appEnd j) ρ
  | none => .stuck
end
@[simp] theorem sAppQ_ap (j : Nat) (m : ME) (ρ : En) : sAppQ j m ρ = match slotO ρ j with
  | some _ => (m ρ).keep.bind fun p => appEnd j p.1 p.2
  | none => .stuck := by
  unfold sAppQ
  split
  · exact sThenQ_ap _ _ _
  · rfl
end ML


namespace ML
open PySem PySem.Spec PyProof.Rows L2
section
variable {prog : Program} {w : World} {A : Around} {E : Value → Shared → Prop} {s : Shared} {z TI TO i1 i2 : Addr} {fp1 fp2 : List Addr} {n1 n2 i : Nat} {P1 P2 : Nat → Value → Prop} {St1 St2 : Nat → Heap → Prop}
abbrev ZAt (h : Heap) (z TI TO : Addr) (out : Value) (f : Bool) : Prop := h.get? z = some { cls := .type "zip", dict := none, data := .fields #[out, .bool f, .bool false, .ref TI, .ref TO], slots := #[] }
def ZSt (h : Heap) (z TI TO : Addr) : Prop := ∃ out f, ZAt h z TI TO out f ∧ (out = .none ∨ ∃ T : Nat, out = rawInt (T : Int))
theorem ZSt.typeIs (h : ZSt s.heap z TI TO) : s.TypeIs (.ref z) "zip" := let ⟨_, _, e, _⟩ := h; ⟨_, e, rfl⟩
theorem ZSt.lt {h : Heap} (x : ZSt h z TI TO) : z < h.objs.size := let ⟨_, _, e, _⟩ := x; Heap.lt_size e
theorem ZSt.keep {h h' : Heap} (x : ZSt h z TI TO) (k : ∀ o, h.get? z = some o → h'.get? z = some o) : ZSt h' z TI TO := let ⟨out, f, e, r⟩ := x; ⟨out, f, k _ e, r⟩
end
section
end
variable [Tabs]
section
variable {X : Cx} {EW : XK} {rf : List Nat} {H : Hp}
end
end ML


namespace ML
open PySem PySem.Spec PyProof.Rows L2
variable [Tabs]
section
variable {X : Cx} {pins : List (Addr × Obj)} {σ : L2.St} {H : Hp} {s : Shared} {a : Addr} {c f : Str} {ns : List Str} {vs : List V} {A : Around} {E : Value → Shared → Prop}
theorem lookup_none {α : Type} : ∀ {ns : List Str} {vs : List α} {f : Str}, f ∉ ns → (ns.zip vs).lookup f = none
  | [], _, _, _ => by simp
  | n :: ns, [], _, _ => by simp
  | n :: ns, v :: vs, f, h => by
    rw [List.zip_cons_cons, List.lookup_cons]
    have : (f == n) = false := by
      cases e : f == n with
      | false => rfl
      | true => exact absurd (by rw [eq_of_beq e]; simp) h
    rw [this]
    exact lookup_none fun z => h (List.mem_cons_of_mem _ z)
end
def attD (f : Str) (d : D) : Res D := match d with
  | .obj _ ns ds => match (ns.zip ds).lookup f with
    | some x => .ok x
    | none => .stuck
  | _ => .stuck
@[simp] theorem attD_obj (f c : Str) (ns : List Str) (ds : List D) : attD f (.obj c ns ds) = (match (ns.zip ds).lookup f with | some x => .ok x | none => .stuck) := rfl
section
variable {X : Cx} {EW : XK} {rf : List Nat} {e : Expr} {f : Str} {pos : Pos} {m : ME}
end
structure FnM (P : Program) (w : World) (K : PySem.W.Frag) (mg : Str → Option Value) (base : Heap) (k : Nat) (c m : Str) (ps : List Str) (sp : Sp) : Prop where
  ex : ∃ (C f : Addr) (fd : FuncData), mg c = some (Value.ref C) ∧ L2.Meth K C m f ∧ Binds K fd ps [] ∧ FnG P w K mg base k f fd ps sp
theorem FnM.mono {P : Program} {w : World} {K : PySem.W.Frag} {mg : Str → Option Value} {base : Heap} {j k : Nat} {c m : Str} {ps : List Str} {sp : Sp} (F : FnM P w K mg base j c m ps sp) (h : j ≤ k) : FnM P w K mg base k c m ps sp :=
  let ⟨C, f, fd, a, b, c, d⟩ := F.ex
  ⟨C, f, fd, a, b, c, FnG.mono d h⟩
def methOf (tbl : List (Str × (List D → Res D))) (m : Str) (d : D) : Option (List D → Res D) := match d with
  | .obj c ns _ => if m ∈ ns then none else tbl.lookup c
  | _ => none
def eMeth (tbl : List (Str × (List D → Res D))) (m : Str) (mo : ME) (ma : MA) : ME := mThen mo fun o => match methOf tbl m o with
  | some F => eCall (fun ds => F (o :: ds)) ma
  | none => fun _ => .stuck
@[simp] theorem methOf_obj (tbl : List (Str × (List D → Res D))) (m c : Str) (ns : List Str) (ds : List D) : methOf tbl m (.obj c ns ds) = if m ∈ ns then none else tbl.lookup c := rfl
structure MetT (X : Cx) (j : Nat) (m : Str) (tbl : List (Str × (List D → Res D))) : Prop where
  at_ : ∀ p ∈ tbl, ∃ ps, FnM X.prog X.w X.K X.mg X.base j p.1 m ps (spP X.K X.mg p.2)
section
variable {X : Cx} {EW : XK} {rf : List Nat} {k j : Nat} {o e : Expr} {es : List Expr} {m : Str} {tbl : List (Str × (List D → Res D))} {mo : ME} {ma : MA} {apos pos : Pos} {pl : Sem Bool}
end
@[simp] theorem eMeth_ap (tbl : List (Str × (List D → Res D))) (m : Str) (mo : ME) (ma : MA) (ρ : En) : eMeth tbl m mo ma ρ = (mo ρ).bind fun p => match methOf tbl m p.1 with
    | some F => eCall (fun ds => F (p.1 :: ds)) ma p.2
    | none => .stuck := by
  unfold eMeth
  rw [mThen_ap]
  congr; funext p
  cases methOf tbl m p.1 <;> rfl
def spI (K : PySem.W.Frag) (mg : Str → Option Value) (C : Addr) (G : List D → Res (List (Str × D))) : Sp := fun vs H Q _ => ∃ (a dx : Addr) (vr : List V) (ds : List D) (fs : List (Str × D)), vs = .ref a :: vr ∧ H a = some (.ins C dx []) ∧ RDs K mg H vr ds ∧ G ds = .ok fs ∧
  ∀ ws, RDs K mg H ws (fs.map (·.2)) → Q .non (upd H a (.ins C dx ((fs.map (·.1)).zip ws)))
structure ClsI (P : Program) (w : World) (K : PySem.W.Frag) (mg : Str → Option Value) (base : Heap) (c : Str) (n : Nat) (G : List D → Res (List (Str × D))) : Prop where
  ex : ∃ (C f : Addr) (fd : FuncData) (ps : List Str), mg c = some (Value.ref C) ∧ L2.Cls K C ∧ L2.Mk K C f ∧ Binds K fd ps [] ∧ ps.length = n + 1 ∧ FnOk P w K mg base (L2.CX P w) 1 f fd ps (spI K mg C G) ∧ ∀ ds fs, G ds = .ok fs → ∀ x ∈ fs.map (·.1), L2.NoAttr K C x
section
variable {X : Cx} {EW : XK} {rf : List Nat} {k n : Nat} {cn : Str} {G : List D → Res (List (Str × D))} {e : Expr} {es : List Expr} {m : MA} {p pos : Pos}
end
inductive IRow where
  | one (f : Str) (i : Nat) | two (f g : Str) (i : Nat)
def IRow.names : IRow → List Str
  | .one f _ => [f]
  | .two f g _ => [f, g]
theorem putF_new {f : Str} {v : V} : ∀ {fs : List (Str × V)}, f ∉ fs.map (·.1) → L2.putF f v fs = fs ++ [(f, v)]
  | [], _ => rfl
  | (k, x) :: r, h => by
    have n : k ≠ f := fun e => h (by simp [e])
    show (if k = f then (k, v) :: r else (k, x) :: L2.putF f v r) = _
    rw [if_neg n, putF_new fun z => h (by simp at z ⊢; exact .inr z)]
    rfl
inductive Rws (self : Str) (N : List Str) (scope : Scope) : List Stmt → List IRow → Prop
  | nil : Rws self N scope [] []
  | one {f x : Str} {i : Nat} {p1 p2 p3 p4 : Pos} {b : List Stmt} {r : List IRow} (hi : N[i + 1]? = some x) (hv : Vis scope x) (hd : (x == ("__debug__" : Str)) = false) (hcd : (x == ("__classdict__" : Str)) = false) (h : Rws self N scope b r) :
      Rws self N scope (.Assign [.Attribute (.Name self p1) f p2] (.Name x p3) p4 :: b) (.one f i :: r)
  | two {f g x : Str} {i k : Nat} {p1 p2 p3 p4 p5 p6 p7 : Pos} {b : List Stmt} {r : List IRow} (hi : N[i + 1]? = some x) (hv : Vis scope x) (hd : (x == ("__debug__" : Str)) = false) (hcd : (x == ("__classdict__" : Str)) = false) (h : Rws self N scope b r) :
      Rws self N scope (.Assign [.Tuple [.Attribute (.Name self p1) f p2, .Attribute (.Name self p5) g p6] k p7] (.Name x p3) p4 :: b) (.two f g i :: r)
structure ClsH (K : PySem.W.Frag) (mg : Str → Option Value) (c : Str) (fs ms : List Str) (C fI : Addr) : Prop where
  at_ : mg c = some (Value.ref C)
  cls : L2.Cls K C
  mkI : L2.Mk K C fI
  no : ∀ f ∈ fs, L2.NoAttr K C f
  me : ∀ m ∈ ms, L2.Meth K C m (He.ma K C m)
theorem clsC_ok {K : PySem.W.Frag} {h : Heap} {mg : Str → Option Value} (X : K.In h) (G : h.Ns mainGlobals mg) {c : Str} {fs ms : List Str} (e : clsC K c fs ms = true) : ClsH K mg c fs ms (He.ga K c) (He.ma K (He.ga K c) "__init__") := by
  unfold clsC at e
  simp only [Bool.and_eq_true, List.all_eq_true] at e
  obtain ⟨c1, ⟨c2, c3, c4, c5⟩, ⟨c6, c7, c8, c9⟩, c10, c11⟩ := e
  exact ⟨He.glo_ok X G c1, ⟨c2, c3, c4, He.eqO_ok c5⟩, ⟨c6, He.eqO_ok c7, c8, c9⟩, fun f hf => He.eqO_ok (c10 f hf), fun m hm => ⟨He.eqO_ok (c11 m hm).1, (c11 m hm).2.1, (c11 m hm).2.2⟩⟩
theorem fnM_of {P : Program} {w : World} {K : PySem.W.Frag} {mg : Str → Option Value} {base : Heap} {k : Nat} {c m : Str} {ps : List Str} {sp : Sp} {C f : Addr} {fd : FuncData} (hm : mg c = some (Value.ref C)) (hM : L2.Meth K C m f) (hb : Binds K fd ps []) (G : FnG P w K mg base k f fd ps sp) : FnM P w K mg base k c m ps sp :=
  ⟨C, f, fd, hm, hM, hb, G⟩
end ML


namespace ML
open PySem PySem.Spec PyProof.Rows L2
variable [Tabs]
def rngV (ds : List D) : Res D := match ds with
  | [.int i, .int j, .int c] => if 0 < c ∧ c < 1073741824 then .ok (.rng i j c) else .stuck
  | _ => .stuck
section
variable {X : Cx} {EW : XK} {rf : List Nat} {a b c e : Expr} {m : MA} {p pos : Pos}
def asRng (d : D) : Res (List D) := match d with
  | .rng i j c => rng3 [.int i, .int j, .int c]
  | _ => .stuck
end
@[simp] theorem asRng_rng (i j c : Int) : asRng (.rng i j c) = rng3 [.int i, .int j, .int c] := rfl
@[simp] theorem rngV_3 (i j c : Int) : rngV [.int i, .int j, .int c] = if 0 < c ∧ c < 1073741824 then .ok (.rng i j c) else .stuck := rfl
end ML


namespace ML
open PySem PySem.Spec PyProof.Rows L2
variable [Tabs]
def eIdxL (mo me : ME) : ME := fun ρ => match mo ρ with
  | .ok (.lst ds, ρ1) => mLast me (idxEnd (.tup ds)) ρ1
  | .exn c fs => .exn c fs
  | _ => .stuck
section
variable {X : Cx} {EW : XK} {rf : List Nat}
end
section
@[simp] theorem eIdxL_ap [Tabs] (mo me : ME) (ρ : En) : eIdxL mo me ρ = (mo ρ).bind fun p => match p.1 with
    | .lst ds => (me p.2).bind fun q => (idxEnd (.tup ds) q.1).bind fun b => .ok (b, q.2)
    | _ => .stuck := by
  unfold eIdxL
  cases mo ρ with
  | ok p =>
    obtain ⟨d, ρ1⟩ := p
    cases d with
    | lst ds => exact mLast_ap ρ1 me (idxEnd (.tup ds))
    | _ => rfl
  | exn c fs => rfl
  | stuck => rfl
end
end ML


namespace ML
open PySem PySem.Spec PyProof.Rows L2
variable [Tabs]
section
variable {X : Cx} {EW : XK} {rf : List Nat}
end
end ML


namespace ML
open PySem PySem.Spec PyProof.Rows L2
variable [Tabs]
section
variable {K : PySem.W.Frag} {x qual : Str} {params : Arguments} {body : List Stmt} {scope : Scope} {dvs : List V} {f : Addr} {fd : FuncData} {ps : List Str}
end
structure FnD (P : Program) (w : World) (K : PySem.W.Frag) (mg : Str → Option Value) (base : Heap) (k : Nat) (x : Str) (ps : List Str) (dl : List V) (sp : Sp) : Prop where
  ex : ∃ (f : Addr) (fd : FuncData) (ds : List Value), mg x = some (Value.ref f) ∧ PySem.W.keepIn K (.ref f) = true ∧ Vals dl ds ∧ Binds K fd ps ds ∧ FnG P w K mg base k f fd ps sp
section
variable {X : Cx} {k j : Nat} {f : Addr} {fd : FuncData} {ps : List Str} {sp : Sp} {E : XK} {x : Str} {p pos : Pos} {e : Expr} {es : List Expr} {t : TA} {dl : List V}
theorem RDs.app {K : PySem.W.Frag} {mg : Str → Option Value} {H : Hp} : ∀ {vs us : List V} {ds es : List D}, RDs K mg H vs ds → RDs K mg H us es → RDs K mg H (vs ++ us) (ds ++ es)
  | [], us, [], es, .nil, h => h
  | v :: vs, us, d :: ds, es, .cons a t, h => .cons a (RDs.app t h)
end
end ML


namespace ML
open PySem PySem.Spec PyProof.Rows L2
variable [Tabs]
section
variable {K : PySem.W.Frag} {x qual : Str} {params : Arguments} {body : List Stmt} {scope : Scope} {dvs : List V} {kws : List (Str × V)} {f : Addr} {fd : FuncData} {ps ks : List Str}
end
structure FnK (P : Program) (w : World) (K : PySem.W.Frag) (mg : Str → Option Value) (base : Heap) (k : Nat) (x : Str) (ps : List Str) (n : Nat) (ks : List Str) (gV : List V → List V → List V) (sp : Sp) : Prop where
  ex : ∃ (f : Addr) (fd : FuncData) (g : List Value → List Value → List Value), mg x = some (Value.ref f) ∧ PySem.W.keepIn K (.ref f) = true ∧ KBn K fd ps n ks g gV ∧ FnG P w K mg base k f fd ps sp
section
variable {X : Cx} {k j n : Nat} {f : Addr} {fd : FuncData} {ps ks : List Str} {sp : Sp} {E : XK} {x : Str} {p pos : Pos} {e : Expr} {es : List Expr} {kws : List Keyword} {t tk : TA} {g : List Value → List Value → List Value} {gV : List V → List V → List V}
end
structure LK (X : Cx) (EW : XK) (rf : List Nat) (kws : List Keyword) (m : MA) : Prop where
  run : ∀ H0 A, A.map (·.1) = rf → PK X kws (rM X EW H0 A (RA X) m)
section
variable {X : Cx} {EW : XK} {rf : List Nat} {k j n : Nat} {ps ks : List Str} {x : Str} {p pos kpos : Pos} {e : Expr} {es : List Expr} {kws : List Keyword} {nm : Option Str}
theorem RDs.len {K : PySem.W.Frag} {mg : Str → Option Value} {H : Hp} : ∀ {vs : List V} {ds : List D}, RDs K mg H vs ds → vs.length = ds.length
  | [], [], .nil => rfl
  | _ :: _, _ :: _, .cons _ t => congrArg Nat.succ (RDs.len t)
end
end ML


namespace ML
open PySem PySem.Spec PyProof.Rows L2
variable [Tabs]
def parEnd (i j : Nat) (ds : List D) (ρ : En) : Res Fl := match ds with
  | [a, b] => .ok (.nx ((ρ.set i (some (.dat a))).set j (some (.dat b))))
  | _ => .stuck
def sPar (i j : Nat) (m : MA) : MS := sThen m (parEnd i j)
section
variable {X : Cx} {EW : XK} {rf : List Nat}
end
@[simp] theorem sPar_ap (i j : Nat) (m : MA) (ρ : En) : sPar i j m ρ = (m ρ).bind fun p => parEnd i j p.1 p.2 := sThen_ap ρ m _
@[simp] theorem parEnd_two (i j : Nat) (a b : D) (ρ : En) : parEnd i j [a, b] ρ = .ok (.nx ((ρ.set i (some (.dat a))).set j (some (.dat b)))) := rfl
end ML


namespace ML
open PySem PySem.Spec PyProof.Rows L2
variable [Tabs]
def endQ (X : Cx) (EW : XK) (H0 : Hp) (H : Hp) (Dn : Ends) : Res Fl → Prop
  | .ok (.nx ρ') => ∀ σ' H', SR X.K X.mg H0 [] σ' H' ρ' → Ext H H' → Dn.nx σ' H'
  | .ok (.rt (.lst es) _) => ∀ a xs H', Sm H0 H' → H0 a = none → H' a = some (.lst xs) → RDs X.K X.mg H' xs es → Dn.rt (.ref a) H'
  | .exn c fs => wX X EW H0 [] c fs
  | _ => False
def rQ (X : Cx) (EW : XK) (H0 : Hp) (m : MS) : TS := fun Dn σ H => ∃ ρ, SR X.K X.mg H0 [] σ H ρ ∧ endQ X EW H0 H Dn (m ρ)
structure LQ (X : Cx) (EW : XK) (st : Stmt) (m : MS) : Prop where
  run : ∀ H0, PS X st (rQ X EW H0 m)
structure LQs (X : Cx) (EW : XK) (st : List Stmt) (m : MS) : Prop where
  run : ∀ H0, PSs X st (rQ X EW H0 m)
def sNo (m : MS) : MS := fun ρ => match m ρ with
  | .ok (.nx ρ') => .ok (.nx ρ')
  | .exn c fs => .exn c fs
  | _ => .stuck
def sRetOwn (i : Nat) : MS := fun ρ => match slotO ρ i with
  | some es => .ok (.rt (.lst es) ρ)
  | none => .stuck
def sRetNew (m : MA) : MS := fun ρ => match m ρ with
  | .ok (es, ρ1) => .ok (.rt (.lst es) ρ1)
  | .exn c fs => .exn c fs
  | .stuck => .stuck
section
variable {X : Cx} {EW : XK} {H0 H H1 : Hp} {Dn : Ends}
theorem endQ.ext {r : Res Fl} (e : Ext H H1) (h : endQ X EW H0 H Dn r) : endQ X EW H0 H1 Dn r := by
  cases r with
  | ok f => cases f with
    | nx ρ => exact fun σ' H' a b => h σ' H' a (e.trans b)
    | rt d ρ => cases d <;> exact h
    | bk ρ => exact h
    | ct ρ => exact h
  | exn c fs => exact h
  | stuck => exact h
end
section
variable {P : Program} {w : World} {K : PySem.W.Frag} {mg : Str → Option Value} {base : Heap} {x qual : Str} {params : Arguments} {body : List Stmt} {scope : Scope} {dvs : List V} {kws : List (Str × V)} {f : Addr} {fd : FuncData} {N ps : List Str} {k : Nat}
end
def oCallN (F : List D → Res (List D)) (ms : MA) : MA := fun ρ => match ms ρ with
  | .ok (ds, ρ1) => (match F ds with
    | .ok es => .ok (es, ρ1)
    | .exn c fs => .exn c fs
    | .stuck => .stuck)
  | .exn c fs => .exn c fs
  | .stuck => .stuck
def oAdd (ma mb : ME) : MA := mThen ma fun x => mThen mb fun y ρ => match x, y with
  | .lst xs, .lst ys => if xs.length + ys.length ≤ sizeLine then .ok (xs ++ ys, ρ) else .stuck
  | _, _ => .stuck
section
variable {X : Cx} {k j : Nat} {ps : List Str} {EW : XK} {rf : List Nat} {x y : Str} {p py pos : Pos} {e : Expr} {es : List Expr} {m : MA}
theorem lo_add {a b : Expr} {ma mb : ME} (ha : LE X EW rf a ma) (hb : LE X EW rf b mb) : LO X EW rf (.BinOp a .Add b pos) (oAdd ma mb) := by
  refine ⟨fun H0 A hA => (pe_op op_catF (ha.run H0 A hA) (hb.run H0 A hA)).imp fun σ H Q ⟨ρ, r, q⟩ => ⟨ρ, r, ?_⟩⟩
  unfold oAdd mThen at q
  cases ea : ma ρ with
  | ok pa =>
    obtain ⟨dx, ρ1⟩ := pa
    rw [ea] at q
    simp only at q
    refine fun vx H1 r1 x1 rx => ⟨ρ1, r1, ?_⟩
    cases eb : mb ρ1 with
    | ok pb =>
      obtain ⟨dy, ρ2⟩ := pb
      rw [eb] at q
      simp only at q
      refine fun vy H2 r2 x2 ry => ?_
      cases dx with
      | lst xs =>
        cases dy with
        | lst ys =>
          simp only at q
          have rx' : RD X.K X.mg H2 vx (.lst xs) := RD.ext x2 rx
          have ry' : RD X.K X.mg H2 vy (.lst ys) := ry
          cases rx' with
          | lst h1 s1 =>
            cases ry' with
            | lst h2 s2 =>
              by_cases hz : xs.length + ys.length ≤ sizeLine
              · rw [if_pos hz] at q
                refine ⟨_, _, _, _, rfl, rfl, h1, h2, by rw [s1.length, s2.length]; exact hz, fun p hp => ?_⟩
                exact q p _ _ (r2.track hp _) (r2.fresh hp) (r2.notA hp) (RDs.ext (Ext.of_same (same_new hp _)) (s1.append s2)) (x1.trans (x2.trans (Ext.of_same (same_new hp _))))
              · rw [if_neg hz] at q; exact q.elim
        | _ => exact q.elim
      | _ => exact q.elim
    | exn c fs => rw [eb] at q; exact q
    | stuck => rw [eb] at q; exact q
  | exn c fs => rw [ea] at q; exact q
  | stuck => rw [ea] at q; exact q
@[simp] theorem oCallN_ap (F : List D → Res (List D)) (m : MA) (ρ : En) : oCallN F m ρ = (m ρ).bind fun p => (F p.1).bind fun es => .ok (es, p.2) := by
  unfold oCallN
  cases m ρ with
  | ok p =>
    simp only [Res.bind]
    cases F p.1 <;> rfl
  | exn c fs => rfl
  | stuck => rfl
end
def Fl.no (f : Fl) : Res Fl := match f with
  | .nx ρ => .ok (.nx ρ)
  | _ => .stuck
@[simp] theorem Fl.no_nx (ρ : En) : (Fl.nx ρ).no = .ok (.nx ρ) := rfl
def Fl.outL (f : Fl) : Res (List D) := match f with
  | .rt (.lst es) _ => .ok es
  | _ => .stuck
@[simp] theorem Fl.outL_rt (es : List D) (ρ : En) : (Fl.rt (.lst es) ρ).outL = .ok es := rfl
def addLL : D → D → Res (List D)
  | .lst xs, .lst ys => if xs.length + ys.length ≤ sizeLine then .ok (xs ++ ys) else .stuck
  | _, _ => .stuck
@[simp] theorem addLL_lst (xs ys : List D) : addLL (.lst xs) (.lst ys) = if xs.length + ys.length ≤ sizeLine then .ok (xs ++ ys) else .stuck := rfl
@[simp] theorem sNo_ap (m : MS) (ρ : En) : sNo m ρ = (m ρ).bind Fl.no := by
  unfold sNo
  cases m ρ with
  | ok f => cases f <;> rfl
  | exn c fs => rfl
  | stuck => rfl
@[simp] theorem sRetOwn_ap (i : Nat) (ρ : En) : sRetOwn i ρ = need (getO ρ[i]?) fun es => .ok (.rt (.lst es) ρ) := by
  unfold sRetOwn
  rw [slotO_ap]
  cases getO ρ[i]? <;> rfl
@[simp] theorem sRetNew_ap (m : MA) (ρ : En) : sRetNew m ρ = (m ρ).bind fun p => .ok (.rt (.lst p.1) p.2) := by
  unfold sRetNew
  cases m ρ <;> rfl
@[simp] theorem oAdd_ap (a b : ME) (ρ : En) : oAdd a b ρ = (a ρ).bind fun p => (b p.2).bind fun q => (addLL p.1 q.1).bind fun es => .ok (es, q.2) := by
  unfold oAdd
  simp only [mThen_ap]
  congr 1
  funext p
  congr 1
  funext q
  obtain ⟨x, ρ1⟩ := p
  obtain ⟨y, ρ2⟩ := q
  cases x with
  | lst xs =>
    cases y with
    | lst ys =>
      simp only [addLL]
      split <;> rfl
    | _ => rfl
  | _ => rfl
end ML


namespace ML
open PySem PySem.Spec PyProof.Rows L2
variable [Tabs]
section
variable {X : Cx} {i : Nat} {a : Addr} {oe : Obj} {d : Option Addr} {pn : List (Addr × Obj)} {fs : List (Str × D)} {es : List Expr} {ms : MA} {pos : Pos} {st : List Stmt}
end
end ML


namespace ML
open PySem PySem.Spec PyProof.Rows L2
variable [Tabs]
def insS (ρ : En) (i : Nat) (cn : Str) (nn : List Str) : Option (List D) := match ρ[i]? with
  | some (some (.ins c ns dd)) => if c = cn ∧ ns = nn then some dd else none
  | _ => none
section
variable {K : PySem.W.Frag} {mg : Str → Option Value} {H0 H H' : Hp} {A : List (Nat × Addr)} {σ : L2.St} {ρ : En}
theorem set_gt {i : Nat} {y : MV} {j : Nat} {x : Option MV} (h : (ρ.set i (some y))[j]? = some x) : (j = i ∧ x = some y) ∨ (j ≠ i ∧ ρ[j]? = some x) := by
  rw [List.getElem?_set] at h
  by_cases e : i = j
  · subst e
    simp only [if_true] at h
    split at h
    · exact .inl ⟨rfl, (Option.some.inj h).symm⟩
    · cases h
  · rw [if_neg e] at h
    exact .inr ⟨fun q => e q.symm, h⟩
end
def attS (ρ : En) (i : Nat) (f : Str) : Option D := match ρ[i]? with
  | some (some (.ins _ nn dd)) => (nn.zip dd).lookup f
  | _ => none
def eAttO (i : Nat) (f : Str) : ME := fun ρ => match attS ρ i f with
  | some d => .ok (d, ρ)
  | none => .stuck
def setN {α : Type} : List Str → List α → Str → α → List α
  | n :: ns, v :: vs, f, y => if n = f then y :: vs else v :: setN ns vs f y
  | _, vs, _, _ => vs
theorem setN_len {α : Type} : ∀ (ns : List Str) (vs : List α) (f : Str) (y : α), (setN ns vs f y).length = vs.length
  | [], [], _, _ => rfl
  | [], _ :: _, _, _ => rfl
  | _ :: _, [], _, _ => rfl
  | n :: ns, v :: vs, f, y => by
    unfold setN
    split
    · rfl
    · simp [setN_len ns vs f y]
theorem putF_zip {f : Str} {y : V} : ∀ {ns : List Str} {vs : List V}, f ∈ ns → ns.length = vs.length → L2.putF f y (ns.zip vs) = ns.zip (setN ns vs f y)
  | [], _, h, _ => by cases h
  | n :: ns, [], _, h => by simp at h
  | n :: ns, v :: vs, h, hl => by
    show (if n = f then (n, y) :: ns.zip vs else (n, v) :: L2.putF f y (ns.zip vs)) = _
    unfold setN
    by_cases e : n = f
    · rw [if_pos e, if_pos e]; rfl
    · rw [if_neg e, if_neg e, putF_zip (f := f) (y := y) (ns := ns) (vs := vs) (by
        rcases List.mem_cons.mp h with rfl | h
        · exact absurd rfl e
        · exact h) (by simpa using hl)]
      rfl
theorem RDs.setN {K : PySem.W.Frag} {mg : Str → Option Value} {H : Hp} {x : V} {d : D} {f : Str} (r : RD K mg H x d) : ∀ (ns : List Str) {xs : List V} {ds : List D}, RDs K mg H xs ds → RDs K mg H (ML.setN ns xs f x) (ML.setN ns ds f d)
  | [], _, _, .nil => .nil
  | [], _, _, .cons q t => .cons q t
  | _ :: _, _, _, .nil => .nil
  | n :: ns, _, _, .cons q t => by
    unfold ML.setN
    split
    · exact .cons r t
    · exact .cons q (RDs.setN r ns t)
section
variable {X : Cx} {EW : XK} {rf : List Nat} {i : Nat} {x f : Str} {px pos : Pos}
def attEnd (i : Nat) (f : Str) (c0 : Option Str) (z : Int) (d : D) (ρ : En) : Res Fl := match d with
  | .int w => match ρ[i]? with
    | some (some (.ins c nn dd)) => if f ∈ nn ∧ nn.length < 1000 ∧ c0 = some c then .ok (.nx (ρ.set i (some (.ins c nn (setN nn dd f (.int (z + w))))))) else .stuck
    | _ => .stuck
  | _ => .stuck
end
def Fl.outO (cn : Str) (nn : List Str) : Fl → Res (D × List D)
  | .rt d ρ => (match insS ρ 0 cn nn with
    | some dd => .ok (d, dd)
    | none => .stuck)
  | .nx ρ => (match insS ρ 0 cn nn with
    | some dd => .ok (.non, dd)
    | none => .stuck)
  | _ => .stuck
theorem startO_cases {n : Nat} {y : MV} {ds : List D} {i : Nat} {x : MV} (h : (startE n (y :: ds.map MV.dat))[i]? = some (some x)) : (i = 0 ∧ x = y) ∨ ∃ j d, i = j + 1 ∧ ds[j]? = some d ∧ x = .dat d := by
  unfold startE at h
  cases i with
  | zero =>
    simp at h
    exact .inl ⟨rfl, h.symm⟩
  | succ j =>
    refine .inr ⟨j, ?_⟩
    by_cases hi : j < ds.length
    · rw [List.getElem?_append_left (by simpa using hi)] at h
      simp only [List.map_cons, List.getElem?_cons_succ, List.getElem?_map] at h
      cases e : ds[j]? with
      | none => rw [e] at h; cases h
      | some d => rw [e] at h; cases h; exact ⟨d, rfl, rfl, rfl⟩
    · rw [List.getElem?_append_right (by simpa using hi), List.getElem?_replicate] at h
      split at h <;> cases h
section
variable {P : Program} {w : World} {K : PySem.W.Frag} {mg : Str → Option Value} {base : Heap} {x qual : Str} {params : Arguments} {body : List Stmt} {scope : Scope} {dvs : List V} {kws : List (Str × V)} {f : Addr} {fd : FuncData} {N ps : List Str} {k : Nat} {cn : Str} {nn : List Str}
end
def methEnd (F : List D → List D → Res (D × List D)) (i : Nat) (cn : Str) (nn : List Str) (ds : List D) (ρ : En) : Res (D × En) := match insS ρ i cn nn with
  | some dd => (match F dd ds with
    | .ok (d, dd') => .ok (d, ρ.set i (some (.ins cn nn dd')))
    | _ => .stuck)
  | none => .stuck
def eMethO (F : List D → List D → Res (D × List D)) (i : Nat) (cn : Str) (nn : List Str) (ma : MA) : ME := fun ρ => match insS ρ i cn nn with
  | some _ => mThen ma (methEnd F i cn nn) ρ
  | none => .stuck
section
variable {X : Cx} {EW : XK} {rf : List Nat} {k j i : Nat} {x m cn : Str} {nn : List Str} {e : Expr} {es : List Expr} {F : List D → List D → Res (D × List D)} {ma : MA} {px apos pos : Pos} {pl : Sem Bool} {ps : List Str}
end
def noIns (i : Nat) (ρ : En) : Bool := (ρ.set i none).all fun x => match x with
  | some (.ins _ _ _) => false
  | some (.nst _) => false
  | _ => true
theorem noIns_nst {i : Nat} {ρ : En} (h : noIns i ρ = true) (j : Nat) (y : NX) (n : j ≠ i) : ρ[j]? ≠ some (some (MV.nst y)) := fun e => by
  have e2 : (ρ.set i none)[j]? = some (some (MV.nst y)) := by rw [List.getElem?_set_ne (fun q => n q.symm)]; exact e
  have := List.all_eq_true.mp h _ (List.mem_of_getElem? e2)
  cases this
theorem noIns_at {i : Nat} {ρ : En} (h : noIns i ρ = true) (j : Nat) (c : Str) (nn : List Str) (dd : List D) (n : j ≠ i) : ρ[j]? ≠ some (some (MV.ins c nn dd)) := fun e => by
  have e2 : (ρ.set i none)[j]? = some (some (MV.ins c nn dd)) := by rw [List.getElem?_set_ne (fun q => n q.symm)]; exact e
  have := List.all_eq_true.mp h _ (List.mem_of_getElem? e2)
  cases this
def makeEnd (i : Nat) (cn : Str) (G : List D → Res (List (Str × D))) (ds : List D) (ρ : En) : Res Fl := match G ds with
  | .ok fs => if noIns i ρ = true then .ok (.nx (ρ.set i (some (.ins cn (fs.map (·.1)) (fs.map (·.2)))))) else .stuck
  | _ => .stuck
def sMakeO (i : Nat) (cn : Str) (G : List D → Res (List (Str × D))) (ma : MA) : MS := sThen ma (makeEnd i cn G)
section
variable {X : Cx} {EW : XK} {rf : List Nat} {k n i j : Nat} {x cn m : Str} {G : List D → Res (List (Str × D))} {e : Expr} {es : List Expr} {ma : MA} {p pos pos' pos2 apos : Pos}
def freshEnd (G : List D → Res (List (Str × D))) (F : List D → List D → Res (D × List D)) (nn : List Str) (z : Int) (ds : List D) (ρ : En) : Res (D × En) := match G ds with
  | .ok fs => if fs.map (·.1) = nn then (match F (fs.map (·.2)) [.int z] with
    | .ok (d, _) => .ok (d, ρ)
    | _ => .stuck) else .stuck
  | _ => .stuck
def eFreshM (G : List D → Res (List (Str × D))) (F : List D → List D → Res (D × List D)) (nn : List Str) (z : Int) (ma : MA) : ME := mThen ma (freshEnd G F nn z)
end
def sTryOk (mb : MS) : MS := fun ρ => match mb ρ with
  | .ok f => .ok f
  | _ => .stuck
section
variable {X : Cx} {EW : XK} {rf : List Nat} {k : Nat} {body : List Stmt} {mb : MS} {h₀ : ExceptHandler} {hs : List ExceptHandler} {pos : Pos}
end
end ML


namespace ML
open PySem PySem.Spec PyProof.Rows L2
variable [Tabs]
def signsD (x : Str) : List D := x.cps.toList.map fun c => D.str ⟨#[c]⟩
def asStr (d : D) : Res (List D) := match d with
  | .str x => .ok (signsD x)
  | _ => .stuck
theorem nx_asStr (a : D) (c : Str) (fs : List (Str × D)) : asStr a ≠ .exn c fs := by unfold asStr; split <;> simp
section
variable {X : Cx} {EW : XK} {rf : List Nat} {H : Hp}
theorem iterOk_str {x : Str} : IterOk X (Its x) (signsD x) H := by
  have hl : (signsD x).length = x.cps.size := by simp [signsD]
  refine fun H2 e => ⟨fun i hi => ?_, fun i y H3 d hd hy => ?_, ?_⟩
  · show i < x.cps.size
    rw [← hl]; exact hi
  · obtain ⟨rfl, c, hc, rfl⟩ := hy
    unfold signsD at hd
    rw [List.getElem?_map] at hd
    have : x.cps.toList[i]? = some c := by simpa using hc
    rw [this] at hd
    cases hd
    exact ⟨Same.refl _, .str _⟩
  · show x.cps.size ≤ _
    rw [hl]; exact Nat.le_refl _
theorem li_str {tg e : Expr} {m : ME} (h : LE X EW rf e m) : LI X EW rf tg e (mLast m asStr) := by
  refine ⟨fun H0 A hA => (pi_str (h.run H0 A hA)).imp fun σ H R q => ?_⟩
  refine (rM.last (R := RE X) q nx_asStr).mono fun v H1 ⟨d, ds, rd, hd, q⟩ => ?_
  unfold asStr at hd
  split at hd
  · cases hd
    have rd' : RD X.K X.mg H1 v (.str _) := rd
    cases rd'
    exact ⟨_, rfl, q _ H1 (Same.refl H1) iterOk_str⟩
  · cases hd
def sidxD (a b : D) : Res D := match a, b with
  | .str x, .str y => match Builtin.Str.occurrences x y 0 x.length 1 with
    | i :: _ => .ok (.int (i : Nat))
    | [] => .stuck
  | _, _ => .stuck
def eIdxS (mo me : ME) : ME := fun ρ => match mo ρ with
  | .ok (.str x, ρ1) => mLast me (sidxD (.str x)) ρ1
  | .exn c fs => .exn c fs
  | _ => .stuck
def allStrs : List D → Option (List Str)
  | [] => some []
  | .str i :: r => (allStrs r).map (i :: ·)
  | _ => none
theorem allStrs_eq : ∀ {ds : List D} {ns : List Str}, allStrs ds = some ns → ds = ns.map D.str
  | [], ns, h => by cases h; rfl
  | .str i :: r, ns, h => by
    unfold allStrs at h
    cases e : allStrs r with
    | none => rw [e] at h; cases h
    | some l => rw [e] at h; cases h; rw [allStrs_eq e]; rfl
  | .non :: _, _, h | .bl _ :: _, _, h | .int _ :: _, _, h | .tup _ :: _, _, h | .lst _ :: _, _, h | .fn _ :: _, _, h | .klst _ :: _, _, h | .ty _ :: _, _, h | .obj _ _ _ :: _, _, h | .rng _ _ _ :: _, _, h => by cases h
theorem RDs.of_strs {K : PySem.W.Frag} {mg : Str → Option Value} {H : Hp} : ∀ {vs : List V} (ns : List Str), RDs K mg H vs (ns.map D.str) → vs = ns.map V.str
  | _, [], .nil => rfl
  | _, n :: r, .cons (.str _) t => congrArg (V.str n :: ·) (RDs.of_strs r t)
def sjoinD (x : Str) (d : D) : Res D := match d with
  | .lst ds => match allStrs ds with
    | some ys => if (ys.map (·.length)).sum + ys.length * x.length ≤ 16777216 then .ok (.str (Txt.join x ys)) else .stuck
    | none => .stuck
  | _ => .stuck
theorem nx_sjoin (x : Str) (b : D) (c : Str) (fs : List (Str × D)) : sjoinD x b ≠ .exn c fs := by
  unfold sjoinD
  split
  · split
    · split <;> simp
    · simp
  · simp
def eJoinS (x : Str) (me : ME) : ME := mLast me (sjoinD x)
theorem le_joinS {x : Str} {o e : Expr} {me : ME} {apos cpos : Pos} (ho : PE X o (tC (.str x))) (he : LE X EW rf e me)
    (hbase : attributeBase o "join" X.env (eval o X.env) = eval o X.env := by rfl)
    (hfew : ((backTo cpos (starEach [e] X.env)).all (fun x => !x.1) && (backToKw cpos (keywordEach [] X.env)).all (fun x => x.1.isSome) && decide (([e] : List Expr).length + ([] : List Keyword).length + (if ([] : List Keyword).isEmpty then 0 else 1) < 30)) = true := by rfl)
    (hline : (apos.endLine == cpos.line) = true := by rfl) (hs : starEach [e] X.env = (false, eval e X.env) :: starEach [] X.env := by rfl) (hplain : (backTo cpos (starEach [] X.env)).any (·.1) = false := by rfl) :
    LE X EW rf (.Call (.Attribute o "join" apos) [e] [] cpos) (eJoinS x me) := by
  refine ⟨fun H0 A hA => (pe_bm PySem.F.plainAttrs_str PySem.F.slot_str_join PySem.F.type_str_join mt_join ho (pa_cons (he.run H0 A hA) pa_nil hs) hbase hfew hline hs hplain).imp fun σ H Q q => ?_⟩
  refine ⟨by simp [tyV], ?_⟩
  refine (rM.last (R := RE X) q (nx_sjoin _)).mono fun v H1 ⟨d, b, rd, hd, q⟩ => ?_
  cases d with
  | lst ds =>
    unfold sjoinD at hd
    simp only at hd
    cases ha : allStrs ds with
    | none => rw [ha] at hd; cases hd
    | some ys =>
      rw [ha] at hd
      simp only at hd
      have rd' : RD X.K X.mg H1 v (.lst ds) := rd
      cases rd' with
      | lst h1 h2 =>
        by_cases hz : (ys.map (·.length)).sum + ys.length * x.length ≤ 16777216
        · rw [if_pos hz] at hd
          cases hd
          rw [allStrs_eq ha] at h2
          have e := RDs.of_strs ys h2
          subst e
          exact ⟨x, _, ys, rfl, rfl, .inl h1.seq, hz, q _ H1 (Same.refl H1) (.str _)⟩
        · rw [if_neg hz] at hd; cases hd
  | _ => cases hd
end
end ML


namespace ML
open PySem PySem.Spec PyProof.Rows L2
variable [Tabs]
def getI (x : Option (Option MV)) (cn : Str) (nn : List Str) : Option (List D) := match x with
  | some (some (.ins c ns dd)) => if c = cn ∧ ns = nn then some dd else none
  | _ => none
def getA (x : Option (Option MV)) (f : Str) : Option D := match x with
  | some (some (.ins _ nn dd)) => (nn.zip dd).lookup f
  | _ => none
@[simp] theorem getI_ins (c : Str) (ns : List Str) (dd : List D) : getI (some (some (.ins c ns dd))) c ns = some dd := by
  unfold getI
  simp
theorem insS_ap (ρ : En) (i : Nat) (cn : Str) (nn : List Str) : insS ρ i cn nn = getI ρ[i]? cn nn := rfl
@[simp] theorem eAttO_ap (i : Nat) (f : Str) (ρ : En) : eAttO i f ρ = need (getA ρ[i]? f) fun d => .ok (d, ρ) := by
  unfold eAttO
  show (match getA ρ[i]? f with | some d => _ | none => _) = _
  cases getA ρ[i]? f <;> rfl
@[simp] theorem methEnd_ap (F : List D → List D → Res (D × List D)) (i : Nat) (cn : Str) (nn : List Str) (ds : List D) (ρ : En) : methEnd F i cn nn ds ρ = need (getI ρ[i]? cn nn) fun dd => match F dd ds with
    | .ok p => .ok (p.1, ρ.set i (some (.ins cn nn p.2)))
    | _ => .stuck := by
  unfold methEnd
  rw [insS_ap]
  cases getI ρ[i]? cn nn with
  | none => rfl
  | some dd =>
    show (match F dd ds with | .ok (d, dd') => _ | _ => _) = (match F dd ds with | .ok p => _ | _ => _)
    cases F dd ds with
    | ok p => cases p; rfl
    | exn c fs => rfl
    | stuck => rfl
@[simp] theorem eMethO_ap (F : List D → List D → Res (D × List D)) (i : Nat) (cn : Str) (nn : List Str) (ma : MA) (ρ : En) : eMethO F i cn nn ma ρ = need (getI ρ[i]? cn nn) fun _ => (ma ρ).bind fun p => methEnd F i cn nn p.1 p.2 := by
  unfold eMethO
  rw [insS_ap]
  cases getI ρ[i]? cn nn with
  | none => rfl
  | some dd => exact mThen_ap ρ ma _
@[simp] theorem makeEnd_ap (i : Nat) (cn : Str) (G : List D → Res (List (Str × D))) (ds : List D) (ρ : En) : makeEnd i cn G ds ρ = match G ds with
    | .ok fs => if noIns i ρ = true then .ok (.nx (ρ.set i (some (.ins cn (fs.map (·.1)) (fs.map (·.2)))))) else .stuck
    | _ => .stuck := rfl
@[simp] theorem sMakeO_ap (i : Nat) (cn : Str) (G : List D → Res (List (Str × D))) (ma : MA) (ρ : En) : sMakeO i cn G ma ρ = (ma ρ).bind fun p => makeEnd i cn G p.1 p.2 := by
  unfold sMakeO
  exact sThen_ap ρ ma _
@[simp] theorem sTryOk_ap (mb : MS) (ρ : En) : sTryOk mb ρ = match mb ρ with
    | .ok f => .ok f
    | _ => .stuck := rfl
@[simp] theorem eFreshM_ap (G : List D → Res (List (Str × D))) (F : List D → List D → Res (D × List D)) (nn : List Str) (z : Int) (ma : MA) (ρ : En) : eFreshM G F nn z ma ρ = (ma ρ).bind fun p => freshEnd G F nn z p.1 p.2 := by
  unfold eFreshM
  exact mThen_ap ρ ma _
@[simp] theorem asStr_str (x : Str) : asStr (.str x) = .ok (signsD x) := rfl
@[simp] theorem eIdxS_ap (mo me : ME) (ρ : En) : eIdxS mo me ρ = (mo ρ).bind fun p => match p.1 with
    | .str x => (me p.2).bind fun q => (sidxD (.str x) q.1).bind fun d => .ok (d, q.2)
    | _ => .stuck := by
  unfold eIdxS
  cases mo ρ with
  | ok p =>
    obtain ⟨d, ρ1⟩ := p
    cases d with
    | str x =>
      show mLast me (sidxD (.str x)) ρ1 = _
      rw [mLast_ap]
      rfl
    | _ => rfl
  | exn c fs => rfl
  | stuck => rfl
@[simp] theorem eJoinS_ap (x : Str) (me : ME) (ρ : En) : eJoinS x me ρ = (me ρ).bind fun q => (sjoinD x q.1).bind fun d => .ok (d, q.2) := by
  unfold eJoinS
  rw [mLast_ap]
@[simp] theorem outO_rt (cn : Str) (nn : List Str) (d : D) (ρ : En) : (Fl.rt d ρ).outO cn nn = need (getI ρ[0]? cn nn) fun dd => .ok (d, dd) := by
  show (match getI ρ[0]? cn nn with | some dd => _ | none => _) = _
  cases getI ρ[0]? cn nn <;> rfl
@[simp] theorem attEnd_ins (i : Nat) (f : Str) (c0 : Option Str) (z w : Int) (ρ : En) : attEnd i f c0 z (.int w) ρ = match ρ[i]? with
    | some (some (.ins c nn dd)) => if f ∈ nn ∧ nn.length < 1000 ∧ c0 = some c then .ok (.nx (ρ.set i (some (.ins c nn (setN nn dd f (.int (z + w))))))) else .stuck
    | _ => .stuck := rfl
end ML


namespace ML
open PySem PySem.Spec PyProof.Rows L2
variable [Tabs]
section
variable {X : Cx} {k j : Nat} {ps : List Str} {EW : XK} {rf : List Nat} {x : Str} {p pos : Pos}
theorem le_call0 {F : List D → Res D} (Fn : FnN X.prog X.w X.K X.mg X.base j x ps (spP X.K X.mg F)) (c : Cok X EW k) (hj : j ≤ k) (hg : Gl X x) (hdb : (x == ("__debug__" : Str)) = false := by decide) :
    LE X EW rf (.Call (.Name x p) [] [] pos) (eCall F aNil) := by
  obtain ⟨f, fd, hm, hk, hb, FG⟩ := Fn.ex
  refine ⟨fun H0 A hA => ⟨fun pins s σ H Q I q => ?_⟩⟩
  obtain ⟨ρ, r, q⟩ := q
  refine wpAny_Call_Name_kw (ld_glob I hg hm ?_ hdb)
  refine PySem.W.callWith_K0 I.kIn hk ?_
  refine run_fnG (us := []) (vs := []) FG c hj hb I .nil ⟨[], .nil, r.tb, ?_⟩
  have q' : match eCall F aNil ρ with
    | .ok (d, ρ') => ∀ v H', SR X.K X.mg H0 A σ H' ρ' → Ext H H' → RE X v d H' → Q v H'
    | .exn c fs => wX X EW H0 A c fs
    | .stuck => False := by
    cases e : eCall F aNil ρ with
    | ok z => rw [e] at q; exact q
    | exn c fs => rw [e] at q; exact q
    | stuck => rw [e] at q; exact q
  have ee : eCall F aNil ρ = match F [] with
    | .ok d => .ok (d, ρ)
    | .exn c fs => .exn c fs
    | .stuck => .stuck := rfl
  rw [ee] at q'
  cases ef : F [] with
  | ok d =>
    rw [ef] at q'
    exact fun v H' s rd => q' v H' (r.sm s) (Ext.of_sm s) rd
  | exn c fs =>
    rw [ef] at q'
    exact fun cls dd H' ex s => q' cls dd H' ex ⟨(r.sm s).fr, s.tb⟩
  | stuck => rw [ef] at q'; exact q'
end
end ML


namespace ML
open PySem PySem.Spec PyProof.Rows L2
variable [Tabs]
section
variable {P : Program} {w : World} {K : PySem.W.Frag} {mg : Str → Option Value} {base : Heap} {x qual : Str} {params : Arguments} {body : List Stmt} {scope : Scope} {dvs : List V} {kws : List (Str × V)} {f : Addr} {fd : FuncData} {N ps : List Str} {k : Nat} {cn : Str} {nn : List Str}
abbrev BodyOE (P : Program) (w : World) (K : PySem.W.Frag) (mg : Str → Option Value) (base : Heap) (N : List Str) (qual : Str) (scope : Scope) (body : List Stmt) (k : Nat) (b : MS) : Prop :=
  ∀ (f : Addr) (cdv : Value) (A : Around) (outer : List PySem.Env) (s : Shared) (H : Hp) (E : XK), Cok (cxD P w K mg base N qual scope f cdv A outer s H E) E k → LSs (cxD P w K mg base N qual scope f cdv A outer s H E) E [0] body b
end
def methEndE (F : List D → List D → Res (D × List D)) (i : Nat) (cn : Str) (nn : List Str) (ds : List D) (ρ : En) : Res (D × En) := match insS ρ i cn nn with
  | some dd => (match F dd ds with
    | .ok (d, dd') => .ok (d, ρ.set i (some (.ins cn nn dd')))
    | .exn c fs => .exn c fs
    | .stuck => .stuck)
  | none => .stuck
def eMethE (F : List D → List D → Res (D × List D)) (i : Nat) (cn : Str) (nn : List Str) (ma : MA) : ME := fun ρ => match insS ρ i cn nn with
  | some _ => mThen ma (methEndE F i cn nn) ρ
  | none => .stuck
section
variable {X : Cx} {EW : XK} {rf : List Nat} {k j i : Nat} {x m cn : Str} {nn : List Str} {e : Expr} {es : List Expr} {F : List D → List D → Res (D × List D)} {ma : MA} {px apos pos : Pos} {pl : Sem Bool} {ps : List Str}
end
@[simp] theorem methEndE_ap (F : List D → List D → Res (D × List D)) (i : Nat) (cn : Str) (nn : List Str) (ds : List D) (ρ : En) : methEndE F i cn nn ds ρ = need (getI ρ[i]? cn nn) fun dd => (F dd ds).bind fun p => .ok (p.1, ρ.set i (some (.ins cn nn p.2))) := by
  unfold methEndE
  rw [insS_ap]
  cases getI ρ[i]? cn nn with
  | none => rfl
  | some dd =>
    show (match F dd ds with | .ok (d, dd') => _ | .exn c fs => _ | .stuck => _) = (F dd ds).bind _
    cases F dd ds with
    | ok p => cases p; rfl
    | exn c fs => rfl
    | stuck => rfl
@[simp] theorem eMethE_ap (F : List D → List D → Res (D × List D)) (i : Nat) (cn : Str) (nn : List Str) (ma : MA) (ρ : En) : eMethE F i cn nn ma ρ = need (getI ρ[i]? cn nn) fun _ => (ma ρ).bind fun p => methEndE F i cn nn p.1 p.2 := by
  unfold eMethE
  rw [insS_ap]
  cases getI ρ[i]? cn nn with
  | none => rfl
  | some dd => exact mThen_ap ρ ma _
end ML


namespace ML
open PySem PySem.Spec PyProof.Rows L2
variable [Tabs]
section
variable {M : Model} {A : Around} {E : Value → Shared → Prop} {s : Shared} {env : PySem.Env}
end
section
variable {X : Cx} {pins pn : List (Addr × Obj)} {σ : L2.St} {H3 : Hp} {s3 : Shared} {xb : Value → Shared → Prop} {W : XK} {Q : Value → Shared → Prop} {acc : Value}
end
end ML


namespace ML
open PySem PySem.Spec PyProof.Rows L2
variable [Tabs]
section
variable {X : Cx}
end
def compLoopX (g : MG) (vs : List Nat) (c : MB) (elt : ME) : List D → List D → En → Res (List D × En)
  | [], acc, ρ => .ok (acc, ρ)
  | d :: ds, acc, ρ => match g d (wipeE ρ vs) with
    | .ok ρ1 => (match c ρ1 with
      | .ok (true, ρ2) => (match elt ρ2 with
        | .ok (y, ρ3) => if acc.length < sizeLine then compLoopX g vs c elt ds (acc ++ [y]) (wipeE ρ3 vs) else .stuck
        | .exn c fs => .exn c fs
        | .stuck => .stuck)
      | .ok (false, ρ2) => compLoopX g vs c elt ds acc (wipeE ρ2 vs)
      | _ => .stuck)
    | _ => .stuck
def oCompX (mi : MA) (g : MG) (vs : List Nat) (c : MB) (elt : ME) : MA := fun ρ => match mi ρ with
  | .ok (ds, ρ1) => compLoopX g vs c elt ds [] ρ1
  | .exn c fs => .exn c fs
  | .stuck => .stuck
@[simp] theorem oCompX_ap (mi : MA) (g : MG) (vs : List Nat) (c : MB) (e : ME) (ρ : En) : oCompX mi g vs c e ρ = (mi ρ).bind fun p => compLoopX g vs c e p.1 [] p.2 := by
  unfold oCompX; cases mi ρ <;> rfl
section
variable {X : Cx} {EW : XK} {rf : List Nat}
end
end ML


namespace ML
open PySem PySem.Spec PyProof.Rows L2
section
variable {X : Cx} {body suite : List Stmt} {b₀ : Stmt} {x1 x2 : Str} {c1 c2 : Value} {p1 p2 tpos pos pos' : Pos} {kk : Nat} {tb : WX → TS} {ts : Addr → Value → Option Addr → TS}
end
variable [Tabs]
inductive ResW where
  | ok (f : Fl) | exn (c : Str) (fs : List (Str × D)) (ρ : En) | stuck
abbrev MSW := En → ResW
def endW (X : Cx) (W : WX) (H0 : Hp) (A : List (Nat × Addr)) (H : Hp) (Dn : Ends) : ResW → Prop
  | .ok f => endS X E0 H0 A H Dn (.ok f)
  | .exn c fs ρ1 => ∀ cls dd σ' H', ExR X.K X.mg c fs cls dd H' → SR X.K X.mg H0 A σ' H' ρ1 → Ext H H' → W cls dd σ' H'
  | .stuck => False
theorem endW.ext {X : Cx} {W : WX} {H0 H H1 : Hp} {A : List (Nat × Addr)} {Dn : Ends} {r : ResW} (e : Ext H H1) (h : endW X W H0 A H Dn r) : endW X W H0 A H1 Dn r := by
  cases r with
  | ok f => exact endS.ext e h
  | exn c fs ρ => exact fun cls dd σ' H' a b x => h cls dd σ' H' a b (e.trans x)
  | stuck => exact h
def rSW (X : Cx) (W : WX) (H0 : Hp) (A : List (Nat × Addr)) (m : MSW) : TS := fun Dn σ H => ∃ ρ, SR X.K X.mg H0 A σ H ρ ∧ endW X W H0 A H Dn (m ρ)
structure LSW (X : Cx) (W : WX) (rf : List Nat) (st : Stmt) (m : MSW) : Prop where
  run : ∀ H0 A, A.map (·.1) = rf → PS X st (rSW X W H0 A m)
structure LSWs (X : Cx) (W : WX) (rf : List Nat) (st : List Stmt) (m : MSW) : Prop where
  run : ∀ H0 A, A.map (·.1) = rf → PSs X st (rSW X W H0 A m)
def sTryT (mb : MSW) (cs : List Str) (hd : MS) : MS := fun ρ => match mb ρ with
  | .ok f => .ok f
  | .exn c _ ρ1 => if cs.contains c = true then hd ρ1 else .stuck
  | .stuck => .stuck
section
variable {X : Cx} {W : WX} {rf : List Nat}
end
structure ExmH (K : PySem.W.Frag) (mg : Str → Option Value) (q y1 y2 : Str) (C D1 D2 : Addr) : Prop where
  at_ : mg q = some (Value.ref C)
  at1 : mg y1 = some (Value.ref D1)
  at2 : mg y2 = some (Value.ref D2)
  any : PySem.W.exmAny K (.ref C) [.ref D1, .ref D2] = some true
section
variable {X : Cx} {k : Nat} {EW : XK} {rf : List Nat} {y1 y2 : Str} {p1 p2 tpos pos pos' bpos : Pos} {kk : Nat} {body : List Stmt} {mb : MSW} {cs : List Str}
end
@[simp] theorem sTryT_ap (mb : MSW) (cs : List Str) (hd : MS) (ρ : En) : sTryT mb cs hd ρ = match mb ρ with
  | .ok f => .ok f
  | .exn c _ ρ1 => if cs.contains c = true then hd ρ1 else .stuck
  | .stuck => .stuck := rfl
end ML


namespace ML
open PySem PySem.Spec PyProof.Rows L2
variable [Tabs]
def ordD (ds : List D) : Res D := match ds with
  | [.str x] => if x.length = 1 then .ok (.int ((x.cps.getD 0 0 : Nat) : Int)) else .stuck
  | _ => .stuck
def intTD (ds : List D) : Res D := match ds with
  | [.int i] => .ok (.int i)
  | [.bl b] => .ok (.int (if b = true then 1 else 0))
  | [.str a] => (match PySem.intText? a with
    | some n => if a.length ≤ 640 then .ok (.int n) else .stuck
    | none => .stuck)
  | _ => .stuck
section
variable {X : Cx} {EW : XK} {rf : List Nat} {H : Hp}
theorem bn_ord : Bn X (.builtin "ord") ordD := by
  refine ⟨fun a c fs => by unfold ordD; split <;> (try split) <;> simp, ?_⟩
  intro pins s σ H xs us Q I rx ⟨ds, d, hx, hg, q⟩
  unfold ordD at hg
  split at hg
  · split at hg
    · rename_i hz
      cases hg
      obtain ⟨v, rfl, r⟩ := hx.one
      cases r
      exact call_ord pins s σ H _ us Q I rx ⟨_, rfl, hz, q _ H (Same.refl H) (.int _)⟩
    · cases hg
  · cases hg
theorem bn_intT : Bn X (.type "int") intTD := by
  refine ⟨fun a c fs => by unfold intTD; split <;> (try split) <;> (try split) <;> simp, ?_⟩
  intro pins s σ H xs us Q I rx ⟨ds, d, hx, hg, q⟩
  unfold intTD at hg
  split at hg
  · cases hg
    exact bn_int.2 pins s σ H xs us Q I rx ⟨_, _, hx, rfl, q⟩
  · cases hg
    exact bn_int.2 pins s σ H xs us Q I rx ⟨_, _, hx, rfl, q⟩
  · split at hg
    · rename_i he
      split at hg
      · rename_i hz
        cases hg
        obtain ⟨v, rfl, r⟩ := hx.one
        cases r
        exact call_int_str pins s σ H _ us Q I rx ⟨_, _, rfl, he, hz, q _ H (Same.refl H) (.int _)⟩
      · cases hg
    · cases hg
  · cases hg
theorem mt_frz {id : String} {r : V → List V → Hp → VK → Prop} (h : MtR X id r) : MtR X id (fun x xs H Q => r x xs H fun v H1 => Q v H1 ∨ ∃ a ys, v = V.ref a ∧ H1 a = some (HO.lst ys) ∧ ∀ o, Q v (upd H1 a (HO.frz o (HO.lst ys)))) := by
  have c : CallR X (.builtin id) (fun zs H Q => match zs with | x :: xs => r x xs H Q | [] => False) := by
    intro pins s σ H zs us Q I rz q
    cases zs with
    | nil => exact q.elim
    | cons x xs =>
      cases rz with
      | cons rx rxs => exact h pins s σ H x xs _ _ Q I rx rxs q
  intro pins s σ H x xs v us Q I rx rxs q
  exact (CallR.frz c) pins s σ H (x :: xs) (v :: us) Q I (.cons rx rxs) q
theorem mt_mono {id : String} {r r' : V → List V → Hp → VK → Prop} (h : MtR X id r) (k : ∀ x xs H Q, r' x xs H Q → r x xs H Q) : MtR X id r' := fun pins s σ H x xs v us Q I rx rxs q => h pins s σ H x xs v us Q I rx rxs (k _ _ _ _ q)
def rS1 (X : Cx) (f : Str → D → Res D) : V → List V → Hp → VK → Prop := fun x xs H Q => ∃ a y d b, x = .str a ∧ xs = [y] ∧ RD X.K X.mg H y d ∧ f a d = .ok b ∧ ∀ v H', Same H H' → RD X.K X.mg H' v b → Q v H'
def rS0 (X : Cx) (f : Str → Res D) : V → List V → Hp → VK → Prop := fun x xs H Q => ∃ a b, x = .str a ∧ xs = [] ∧ f a = .ok b ∧ ∀ v H', Same H H' → RD X.K X.mg H' v b → Q v H'
def eSM (f : Str → D → Res D) (mo me : ME) : ME := fun ρ => match mo ρ with
  | .ok (.str x, ρ1) => mLast me (f x) ρ1
  | .exn c fs => .exn c fs
  | _ => .stuck
def asS (f : Str → Res D) : D → Res D
  | .str x => f x
  | _ => .stuck
def eSM0 (f : Str → Res D) (mo : ME) : ME := mLast mo (asS f)
theorem le_SM {f : Str → D → Res D} {id : String} {name : Str} (nx : ∀ x a c fs, f x a ≠ .exn c fs) (slot : Slot "str" name id) (hty : typeOf (.builtin id) = pure (.type "method_descriptor")) (mt : MtR X id (rS1 X f)) {o e : Expr} {mo me : ME} {apos cpos : Pos} (ho : LE X EW rf o mo) (he : LE X EW rf e me)
    (hbase : attributeBase o name X.env (eval o X.env) = eval o X.env := by rfl)
    (hfew : ((backTo cpos (starEach [e] X.env)).all (fun x => !x.1) && (backToKw cpos (keywordEach [] X.env)).all (fun x => x.1.isSome) && decide (([e] : List Expr).length + ([] : List Keyword).length + (if ([] : List Keyword).isEmpty then 0 else 1) < 30)) = true := by rfl)
    (hline : (apos.endLine == cpos.line) = true := by rfl) (hs : starEach [e] X.env = (false, eval e X.env) :: starEach [] X.env := by rfl) (hplain : (backTo cpos (starEach [] X.env)).any (·.1) = false := by rfl) :
    LE X EW rf (.Call (.Attribute o name apos) [e] [] cpos) (eSM f mo me) := by
  refine ⟨fun H0 A hA => (pe_bm PySem.F.plainAttrs_str slot hty mt (ho.run H0 A hA) (pa_cons (he.run H0 A hA) pa_nil hs) hbase hfew hline hs hplain).imp fun σ H Q q => ?_⟩
  obtain ⟨ρ, r, q⟩ := q
  refine ⟨ρ, r, ?_⟩
  unfold eSM at q
  cases eo : mo ρ with
  | exn c fs => rw [eo] at q; exact q
  | stuck => rw [eo] at q; exact q.elim
  | ok p =>
    obtain ⟨d, ρ1⟩ := p
    rw [eo] at q
    refine fun z H1 r1 x1 rx => ?_
    cases d with
    | str x =>
      simp only at q
      have rx' : RD X.K X.mg H1 z (.str x) := rx
      cases rx'
      refine ⟨by simp [tyV], ?_⟩
      have q2 : rM X EW H0 A (RE X) (mLast me (f x)) σ H1 Q := by
        refine ⟨ρ1, r1, ?_⟩
        cases em : mLast me (f x) ρ1 with
        | ok p => rw [em] at q; exact fun v H' a b c => q v H' a (x1.trans b) c
        | exn c fs => rw [em] at q; exact q
        | stuck => rw [em] at q; exact q
      refine (rM.last (R := RE X) q2 (nx x)).mono fun v H2 ⟨d, b, rd, hd, q⟩ => ?_
      exact ⟨x, v, d, b, rfl, rfl, rd, hd, q⟩
    | _ => exact q.elim
theorem le_SM0 {f : Str → Res D} {id : String} {name : Str} (nx : ∀ x c fs, f x ≠ .exn c fs) (slot : Slot "str" name id) (hty : typeOf (.builtin id) = pure (.type "method_descriptor")) (mt : MtR X id (rS0 X f)) {o : Expr} {mo : ME} {apos cpos : Pos} (ho : LE X EW rf o mo)
    (hbase : attributeBase o name X.env (eval o X.env) = eval o X.env := by rfl)
    (hline : (apos.endLine == cpos.line) = true := by rfl) :
    LE X EW rf (.Call (.Attribute o name apos) [] [] cpos) (eSM0 f mo) := by
  refine ⟨fun H0 A hA => (pe_bm0 PySem.F.plainAttrs_str slot hty mt (ho.run H0 A hA) hbase hline).imp fun σ H Q q => ?_⟩
  refine (rM.last (R := RE X) q (fun d c fs => by unfold asS; split <;> simp [nx])).mono fun v H1 ⟨d, b, rd, hd, q⟩ => ?_
  cases d with
  | str x =>
    have rd' : RD X.K X.mg H1 v (.str x) := rd
    cases rd'
    exact ⟨by simp [tyV], x, b, rfl, rfl, hd, q⟩
  | _ => cases hd
def startsD (x : Str) (d : D) : Res D := match d with
  | .str y => .ok (.bl (Txt.startswith x y))
  | _ => .stuck
def unprefD (x : Str) (d : D) : Res D := match d with
  | .str y => if x.length ≤ sizeLine then .ok (.str (Txt.removeprefix x y)) else .stuck
  | _ => .stuck
def splitD (x : Str) (d : D) : Res D := match d with
  | .str y => if (y.length == 0) = false ∧ x.length + 2 ≤ sizeLine then .ok (.lst ((Txt.split x y).map D.str)) else .stuck
  | _ => .stuck
def wordsD (x : Str) : Res D := if x.length + 2 ≤ sizeLine then .ok (.lst ((Txt.words x).map D.str)) else .stuck
def isdigD (x : Str) : Res D := .ok (.bl (Txt.isdigit x))
theorem nx_starts (x : Str) (a : D) (c : Str) (fs : List (Str × D)) : startsD x a ≠ .exn c fs := by unfold startsD; split <;> simp
theorem nx_unpref (x : Str) (a : D) (c : Str) (fs : List (Str × D)) : unprefD x a ≠ .exn c fs := by unfold unprefD; split <;> (try split) <;> simp
theorem nx_split (x : Str) (a : D) (c : Str) (fs : List (Str × D)) : splitD x a ≠ .exn c fs := by unfold splitD; split <;> (try split) <;> simp
theorem nx_words (x : Str) (c : Str) (fs : List (Str × D)) : wordsD x ≠ .exn c fs := by unfold wordsD; split <;> simp
theorem nx_isdig (x : Str) (c : Str) (fs : List (Str × D)) : isdigD x ≠ .exn c fs := by unfold isdigD; simp
theorem mt_starts1 : MtR X "str.startswith" (rS1 X startsD) := mt_mono mt_startswith fun x xs H Q ⟨a, y, d, b, hx, hxs, rd, hd, q⟩ => by
  cases d with
  | str z =>
    cases rd
    cases hd
    exact ⟨_, _, hx, hxs, q _ H (Same.refl H) (.bl _)⟩
  | _ => cases hd
theorem mt_unpref1 : MtR X "str.removeprefix" (rS1 X unprefD) := mt_mono mt_removeprefix fun x xs H Q ⟨a, y, d, b, hx, hxs, rd, hd, q⟩ => by
  cases d with
  | str z =>
    cases rd
    unfold unprefD at hd
    simp only at hd
    split at hd
    · rename_i hz
      cases hd
      exact ⟨_, _, hx, hxs, hz, q _ H (Same.refl H) (.str _)⟩
    · cases hd
  | _ => cases hd
theorem RDs.strs {K : PySem.W.Frag} {mg : Str → Option Value} {H : Hp} : ∀ ys : List Str, RDs K mg H (ys.map V.str) (ys.map D.str)
  | [] => .nil
  | y :: ys => .cons (.str _) (RDs.strs ys)
theorem mt_split1 : MtR X "str.split" (rS1 X splitD) := mt_mono (mt_frz mt_split) fun x xs H Q ⟨a, y, d, b, hx, hxs, rd, hd, q⟩ => by
  cases d with
  | str z =>
    cases rd
    unfold splitD at hd
    simp only at hd
    split at hd
    · rename_i hz
      cases hd
      exact ⟨_, _, hx, hxs, hz.1, hz.2, fun p hp => new_frozen hp (RDs.strs _) q⟩
    · cases hd
  | _ => cases hd
theorem mt_words0 : MtR X "str.split" (rS0 X wordsD) := mt_mono (mt_frz mt_words) fun x xs H Q ⟨a, b, hx, hxs, hd, q⟩ => by
  unfold wordsD at hd
  split at hd
  · rename_i hz
    cases hd
    exact ⟨_, hx, hxs, hz, fun p hp => new_frozen hp (RDs.strs _) q⟩
  · cases hd
theorem mt_isdig0 : MtR X "str.isdigit" (rS0 X isdigD) := mt_mono mt_isdigit fun x xs H Q ⟨a, b, hx, hxs, hd, q⟩ => by
  cases hd
  exact ⟨_, hx, hxs, trivial, q _ H (Same.refl H) (.bl _)⟩
end
@[simp] theorem eSM_ap (f : Str → D → Res D) (mo me : ME) (ρ : En) : eSM f mo me ρ = match mo ρ with
  | .ok (.str x, ρ1) => mLast me (f x) ρ1
  | .exn c fs => .exn c fs
  | _ => .stuck := rfl
@[simp] theorem eSM0_ap (f : Str → Res D) (mo : ME) (ρ : En) : eSM0 f mo ρ = (mo ρ).bind fun q => (asS f q.1).bind fun d => .ok (d, q.2) := by
  unfold eSM0
  rw [mLast_ap]
end ML


namespace ML
open PySem PySem.Spec PyProof.Rows L2
variable [Tabs]
def TabN (K : PySem.W.Frag) (w : World) (mg : Str → Option Value) (x : Str) (ks : List Str) : Prop :=
  ∃ a es n, mg x = some (Value.ref a) ∧ KDict K w a es n ∧ ∀ z, ∃ r : Option Value, PySem.W.nsIn K a z = some r ∧ r.isSome = ks.contains z
def inTabD (ks : List Str) (k : D) : Res D := match k with
  | .str z => .ok (.bl (ks.contains z))
  | _ => .stuck
def niTabD (ks : List Str) (k : D) : Res D := match k with
  | .str z => .ok (.bl (!ks.contains z))
  | _ => .stuck
theorem nx_inTab (ks : List Str) (k : D) (c : Str) (fs : List (Str × D)) : inTabD ks k ≠ .exn c fs := by unfold inTabD; split <;> simp
theorem nx_niTab (ks : List Str) (k : D) (c : Str) (fs : List (Str × D)) : niTabD ks k ≠ .exn c fs := by unfold niTabD; split <;> simp
section
variable {X : Cx} {EW : XK} {rf : List Nat}
theorem lt_inTab {x : Str} {ks : List Str} {e : Expr} {m : ME} {p pos : Pos} (hT : TabN X.K X.w X.mg x ks) (h : LE X EW rf e m) (hg : Gl X x := by rfl) (hd : (x == ("__debug__" : Str)) = false := by decide) (hb : behindInMarks .In (.Name x p) = false := by rfl) :
    LT X EW rf (.Compare e [.In] [.Name x p] pos) (bV (e1 (inTabD ks) m)) := by
  obtain ⟨a, es, n, hm, KD, hv⟩ := hT
  refine ⟨fun H0 A hA => (pt_cmpR (op_in_kd KD) (h.run H0 A hA) (pe_glob (v := .ref a) hg hm rfl hd) hb).imp fun σ H Q q => ?_⟩
  refine (rM.last (R := RE X) (tB_of q) (nx_inTab ks)).mono fun y H1 ⟨dy, d, ry, hd, q⟩ => ?_
  unfold inTabD at hd
  split at hd
  · rename_i z
    cases hd
    cases ry
    obtain ⟨r, h1, h2⟩ := hv z
    rw [← h2] at q
    exact ⟨z, r, rfl, rfl, h1, q _ H1 (Same.refl H1) (show RD X.K X.mg H1 _ _ from RD.bl _)⟩
  · cases hd
theorem lt_niTab {x : Str} {ks : List Str} {e : Expr} {m : ME} {p pos : Pos} (hT : TabN X.K X.w X.mg x ks) (h : LE X EW rf e m) (hg : Gl X x := by rfl) (hd : (x == ("__debug__" : Str)) = false := by decide) (hb : behindInMarks .NotIn (.Name x p) = false := by rfl) :
    LT X EW rf (.Compare e [.NotIn] [.Name x p] pos) (bV (e1 (niTabD ks) m)) := by
  obtain ⟨a, es, n, hm, KD, hv⟩ := hT
  refine ⟨fun H0 A hA => (pt_cmpR (op_notIn_kd KD) (h.run H0 A hA) (pe_glob (v := .ref a) hg hm rfl hd) hb).imp fun σ H Q q => ?_⟩
  refine (rM.last (R := RE X) (tB_of q) (nx_niTab ks)).mono fun y H1 ⟨dy, d, ry, hd, q⟩ => ?_
  unfold niTabD at hd
  split at hd
  · rename_i z
    cases hd
    cases ry
    obtain ⟨r, h1, h2⟩ := hv z
    rw [← h2] at q
    exact ⟨z, r, rfl, rfl, h1, q _ H1 (Same.refl H1) (show RD X.K X.mg H1 _ _ from RD.bl _)⟩
  · cases hd
end
theorem find_keys {P : Params} : ∀ {l : List DictEntry} {ks : List Str} (z : Str), l.map He.keyOf = He.keysIn P ks → (l.find? (·.key.isStr z)).isSome = ks.contains z ∧ l.any (·.refKey) = false
  | [], [], z, _ => ⟨rfl, rfl⟩
  | [], _ :: _, _, h => by cases h
  | _ :: _, [], _, h => by cases h
  | e :: r, k :: ks, z, h => by
    have h1 : He.keyOf e :: r.map He.keyOf = some (k, PyData.keyHash P k) :: He.keysIn P ks := h
    injection h1 with h2 h3
    obtain ⟨i1, i2⟩ := find_keys z h3
    unfold He.keyOf at h2
    split at h2
    · rename_i x t q
      obtain ⟨h5, _⟩ := Prod.mk.inj (Option.some.inj h2)
      subst h5
      have ei : e.key.isStr z = (z == x) := by
        rw [q]
        show (_ : Bool) = _
        first | rfl | (simp [Value.isStr, BEq.comm]) | (rw [Bool.eq_iff_iff]; simp [Value.isStr, eq_comm])
      constructor
      · rw [List.find?_cons, List.contains_cons]
        rw [ei]
        cases hz : (z == x) with
        | true => rfl
        | false => rw [Bool.false_or]; exact i1
      · rw [List.any_cons, i2, Bool.or_false]
        unfold DictEntry.refKey
        rw [q]
    · cases h2
theorem tabN_of {K : PySem.W.Frag} {w : World} {mg : Str → Option Value} {x : Str} {a : Addr} {ks : List Str} (hm : mg x = some (Value.ref a)) (h : He.dicW K a = some (He.keysIn w.params ks)) : TabN K w mg x ks := by
  obtain ⟨es, n, kd⟩ := He.dicW_ok h
  refine ⟨a, es, n, hm, kd, fun z => ?_⟩
  have hk : es.toList.map He.keyOf = He.keysIn w.params ks := by
    unfold He.dicW at h
    rw [kd.at_] at h
    simp only [kd.low] at h
    exact Option.some.inj h
  obtain ⟨f1, f2⟩ := find_keys z hk
  unfold PySem.W.nsIn
  rw [kd.at_]
  simp only
  cases hf : es.toList.find? (·.key.isStr z) with
  | some e => rw [hf] at f1; exact ⟨some e.val, rfl, f1⟩
  | none => rw [hf] at f1; simp only [f2]; exact ⟨none, rfl, f1⟩
theorem dic_of {fa : List He.Fa} {fn : List He.DefD} {ts : List He.Tab} {w : World} {K : PySem.W.Frag} (c : He.SaysT fa fn ts w K) (i : Nat) {t : He.Tab} (h : ts[i]? = some t := by rfl) : He.dicW K (t.1 K) = some (He.keysIn w.params t.2) := by
  have e : ts.map (fun t => He.dicW K (t.1 K)) = ts.map fun t => some (He.keysIn w.params t.2) := congrArg (fun z : He.AlT => z.2) c
  have e2 : (ts.map fun t => He.dicW K (t.1 K))[i]? = (ts.map fun t => some (He.keysIn w.params t.2))[i]? := by rw [e]
  rw [List.getElem?_map, List.getElem?_map, h] at e2
  exact Option.some.inj e2
theorem tabN_ok {K : PySem.W.Frag} {h : Heap} {w : World} {mg : Str → Option Value} (X : K.In h) (G : h.Ns mainGlobals mg) {x : Str} {kvs : List (Str × He.Dv)} {ks : List Str} (c : tabC K x kvs = true) (d : He.dicW K (He.ga K x) = some (He.keysIn w.params ks)) : TabN K w mg x ks := by
  unfold tabC at c
  rw [Bool.and_eq_true, Bool.and_eq_true] at c
  exact tabN_of (He.glo_ok X G c.1) d
end ML


namespace ML
open PySem PySem.Spec PyProof.Rows L2
variable [Tabs]
def leSD (a b : D) : Res D := match a, b with
  | .str i, .str j => .ok (.bl (!decide (j.cps.toList < i.cps.toList)))
  | _, _ => .stuck
theorem op2_leS {X : Cx} : Op2 X (compareOp .LtE) leSD := by
  refine ⟨fun a b c fs => by unfold leSD; split <;> simp, fun pins s σ H x y v u Q I rx ry ⟨dx, dy, d, hx, hy, hg, q⟩ => ?_⟩
  unfold leSD at hg
  split at hg
  · cases hg; cases hx; cases hy
    exact op_le_str pins s σ H _ _ v u Q I rx ry ⟨_, _, rfl, rfl, q _ H (Same.refl H) (.bl _)⟩
  · cases hg
def lenTD (ds : List D) : Res D := match ds with
  | [.str y] => if y.length ≤ sizeLine then .ok (.int (y.length : Int)) else .stuck
  | _ => .stuck
theorem bn_lenT {X : Cx} : Bn X (.builtin "len") lenTD := by
  refine ⟨fun a c fs => by unfold lenTD; split <;> (try split) <;> simp, ?_⟩
  intro pins s σ H xs us Q I rx ⟨ds, d, hx, hg, q⟩
  unfold lenTD at hg
  split at hg
  · split at hg
    · rename_i hz
      cases hg
      obtain ⟨v, rfl, r⟩ := hx.one
      cases r
      exact L2.call_len pins s σ H _ us Q I rx ⟨_, _, rfl, ⟨hz, rfl⟩, q _ H (Same.refl H) (.int _)⟩
    · cases hg
  · cases hg
def slSD (d : D) (lo hi : Option Int) : Res D := match d with
  | .str x => if x.length ≤ sizeLine then .ok (.str (cutS x lo hi)) else .stuck
  | _ => .stuck
def eSlS (m : ME) (ml mh : MO) : ME := mThen m fun d => mThen ml fun lo => mLast mh fun hi => slSD d lo hi
section
variable {X : Cx} {EW : XK} {rf : List Nat}
end
@[simp] theorem eSlS_ap (ρ : En) (m : ME) (ml mh : MO) : eSlS m ml mh ρ = (m ρ).bind fun p => (ml p.2).bind fun l => (mh l.2).bind fun h => (slSD p.1 l.1 h.1).bind fun b => .ok (b, h.2) := by
  unfold eSlS; simp only [mThen_ap, mLast_ap]
end ML


namespace ML
open PySem PySem.Spec PyProof.Rows L2
variable [Tabs]
structure SmL (as : List Addr) (H H' : Hp) : Prop where
  kp : ∀ b o, b ∉ as → H b = some o → Kp o (H' b)
  tb : ∀ P, Tabs.T P → GxR.TabG H' P
inductive Pa where
  | slot (i : Nat) | fld (p : Pa) (f : Str) | idx (p : Pa) (c : Int)
def walk (K : PySem.W.Frag) (σ : L2.St) (H : Hp) : Pa → V → Prop
  | .slot i, v => σ[i]? = some (some v)
  | .fld p f, v => ∃ a C dx fs, walk K σ H p (.ref a) ∧ H a = some (.ins C dx fs) ∧ L2.Cls K C ∧ L2.NoAttr K C f ∧ fs.lookup f = some v
  | .idx p c, v => ∃ a xs, walk K σ H p (.ref a) ∧ H a = some (.lst xs) ∧ L2.atI xs c = some v
def arS (ρ : En) (r : Nat) : Option (List AO × Nat) := match ρ[r]? with
  | some (some (.nst (.root ar k))) => some (ar, k)
  | _ => none
theorem arS_eq {ρ : En} {r : Nat} {ar : List AO} {k : Nat} (h : arS ρ r = some (ar, k)) : ρ[r]? = some (some (.nst (.root ar k))) := by
  unfold arS at h
  split at h
  · rename_i e
    cases h
    exact e
  · cases h
def slotV (ρ : En) (i : Nat) : Option AV := match ρ[i]? with
  | some (some (.dat d)) => some (.dat d)
  | some (some (.nst (.root _ k))) => some (.ptr k)
  | some (some (.nst (.ptr k))) => some (.ptr k)
  | _ => none
def avOf (ar : List AO) (ρ : En) : Pa → Option AV
  | .slot i => slotV ρ i
  | .fld p f => match avOf ar ρ p with
    | some (.ptr k) => (match ar[k]? with
      | some (.ins _ nn vs) => (nn.zip vs).lookup f
      | _ => none)
    | _ => none
  | .idx p c => match avOf ar ρ p with
    | some (.ptr k) => (match ar[k]? with
      | some (.lst xs) => L2.atI xs c
      | _ => none)
    | _ => none
theorem lookupA {f : Str} : ∀ {nn : List Str} {xs : List AV} {vs : List V} {x : AV}, (nn.zip xs).lookup f = some x → vs.length = xs.length → ∃ (j : Nat) (v : V), xs[j]? = some x ∧ vs[j]? = some v ∧ (nn.zip vs).lookup f = some v ∧ f ∈ nn
  | [], _, _, _, h, _ => by simp at h
  | _ :: _, [], _, _, h, _ => by simp at h
  | n :: nn, x0 :: xs, [], _, _, hl => by simp at hl
  | n :: nn, x0 :: xs, v0 :: vs, x, h, hl => by
    rw [List.zip_cons_cons, List.lookup_cons] at h
    by_cases e : f == n
    · rw [e] at h
      cases h
      exact ⟨0, v0, rfl, rfl, by rw [List.zip_cons_cons, List.lookup_cons, e], by rw [beq_iff_eq.mp e]; exact List.mem_cons_self⟩
    · have e' : (f == n) = false := by simpa using e
      rw [e'] at h
      obtain ⟨j, v, h1, h2, h3, h4⟩ := lookupA (vs := vs) h (by simpa using hl)
      exact ⟨j + 1, v, by simpa using h1, by simpa using h2, by rw [List.zip_cons_cons, List.lookup_cons, e']; exact h3, List.mem_cons_of_mem _ h4⟩
section
variable {K : PySem.W.Frag} {mg : Str → Option Value} {H0 H H' : Hp} {A : List (Nat × Addr)} {σ : L2.St} {ρ : En} {as : List Addr} {ar : List AO}
theorem AVs.atI {vs : List V} {xs : List AV} {c : Int} {x : AV} (h : AVs K mg H as vs xs) (e : L2.atI xs c = some x) : ∃ v, L2.atI vs c = some v ∧ AVr K mg H as v x := by
  unfold L2.atI at e ⊢
  rw [h.len]
  cases e2 : ixN xs.length c with
  | none => rw [e2] at e; cases e
  | some j =>
    rw [e2] at e
    have hj : j < vs.length := by rw [h.len]; exact (List.getElem?_eq_some_iff.mp e).1
    exact ⟨vs[j], List.getElem?_eq_getElem hj, h.at_ j _ x (List.getElem?_eq_getElem hj) e⟩
theorem walk_of (r : SR K mg H0 A σ H ρ) {i k : Nat} (hi : ρ[i]? = some (some (MV.nst (.root ar k)))) (w : NsW K mg H0 A σ H ρ i ar k as) : ∀ {p : Pa} {x : AV}, avOf ar ρ p = some x → ∃ v, walk K σ H p v ∧ AVr K mg H as v x
  | .slot j, x, h => by
    unfold avOf slotV at h
    split at h
    · rename_i d e
      cases h
      obtain ⟨v, h1, h2⟩ := r.dat j d e
      exact ⟨v, h1, h2⟩
    · rename_i ar' k' e
      cases h
      have := w.one j ar' k' e
      subst this
      rw [hi] at e
      cases e
      obtain ⟨b, h1, h2⟩ := w.at_
      exact ⟨.ref b, h2, b, h1, rfl⟩
    · rename_i k' e
      cases h
      obtain ⟨b, h1, h2⟩ := w.ptr j k' e
      exact ⟨.ref b, h2, b, h1, rfl⟩
    · cases h
  | .fld p f, x, h => by
    unfold avOf at h
    split at h
    · rename_i k' e
      obtain ⟨v, h1, b, h2, rfl⟩ := walk_of r hi w e
      split at h
      · rename_i c nn xs eo
        obtain ⟨C, dx, vs, g1, g2, g3, g4, g5, g6⟩ := w.ok.obj k' _ b eo h2
        obtain ⟨j, v, q1, q2, q3, q4⟩ := lookupA h g6.len
        exact ⟨v, ⟨b, C, dx, _, h1, g5, g2, g3 f q4, q3⟩, g6.at_ j v x q2 q1⟩
      · cases h
    · cases h
  | .idx p c, x, h => by
    unfold avOf at h
    split at h
    · rename_i k' e
      obtain ⟨v, h1, b, h2, rfl⟩ := walk_of r hi w e
      split at h
      · rename_i xs eo
        obtain ⟨vs, g1, g2⟩ := w.ok.obj k' _ b eo h2
        obtain ⟨v, q1, q2⟩ := g2.atI h
        exact ⟨v, ⟨b, vs, h1, g1, q1⟩, q2⟩
      · cases h
    · cases h
theorem SmL.ext (s : SmL as H H') (k : Aok K mg H as ar) : Ext H H' := by
  refine ⟨fun b xs q => (s.kp b _ (fun m => ?_) q).is fun ps z => (nomatch z), fun b o u q => (s.kp b _ (fun m => ?_) q).is fun ps z => (nomatch z)⟩
  · rcases k.shape m with ⟨ys, h⟩ | ⟨C, dx, fs, h⟩ <;> (rw [q] at h; cases h)
  · rcases k.shape m with ⟨ys, h⟩ | ⟨C, dx, fs, h⟩ <;> (rw [q] at h; cases h)
theorem SR.mutA {i k : Nat} {as' : List Addr} {ar' : List AO} {ρ' : En} (r : SR K mg H0 A σ H ρ) (hA : ∀ p ∈ A, p.1 = i) (hi : ρ[i]? = some (some (MV.nst (.root ar k)))) (w : NsW K mg H0 A σ H ρ i ar k as) (s : SmL as H H')
    (hn : ∀ b ∈ as', b ∈ as ∨ (H0 b = Option.none ∧ ∀ (j : Nat) (ds : List D), ρ[j]? = some (some (MV.own ds)) → σ[j]? ≠ some (some (V.ref b)))) (ok : Aok K mg H' as' ar') {k' : Nat} (hk : ∃ b, as[k]? = some b ∧ as'[k']? = some b) (hl : ρ'.length = ρ.length) (h1 : ρ'[i]? = some (some (MV.nst (.root ar' k'))))
    (h2 : ∀ (j : Nat) (x : MV), j ≠ i → ρ'[j]? = some (some x) → ρ[j]? = some (some x))
    (hp : ∀ (j l : Nat) (b : Addr), ρ'[j]? = some (some (MV.nst (.ptr l))) → as[l]? = some b → as'[l]? = some b) : SR K mg H0 A σ H' ρ' := by
  have e : Ext H H' := s.ext w.ok
  have nw : ∀ b ∈ as', H0 b = Option.none := fun b hb => by
    rcases hn b hb with h | h
    · exact w.new b h
    · exact h.1
  have back : ∀ (j : Nat) (x : MV), ρ'[j]? = some (some x) → (∀ y, x ≠ .nst y) → ρ[j]? = some (some x) := fun j x h hx => by
    by_cases z : j = i
    · subst z
      rw [h1] at h
      cases h
      exact absurd rfl (hx _)
    · exact h2 j x z h
  refine ⟨hl.trans r.len, fun j d h => ?_, fun j ds h => ?_, fun j l d1 d2 a n g1 g2 => r.ap j l d1 d2 a n (back j _ g1 (fun y z => by cases z)) (back l _ g2 (fun y z => by cases z)), fun b o h n => ?_, r.ref, fun p hp => ?_, s.tb, fun j ar2 k2 h => ?_, Iso.none fun j c nn dd h => w.noi j c nn dd (back j _ h (fun y z => by cases z))⟩
  · obtain ⟨v, g1, g2⟩ := r.dat j d (back j _ h (fun y z => by cases z))
    exact ⟨v, g1, g2.ext e⟩
  · have h' := back j _ h (fun y z => by cases z)
    obtain ⟨b, xs, g1, g2, g3, g4⟩ := r.own j ds h'
    exact ⟨b, xs, g1, (s.kp b _ (w.own j ds b h' g1) g2).is fun ps z => (nomatch z), g3.ext e, g4⟩
  · have nb : b ∉ as := fun m => by rw [w.new b m] at h; cases h
    exact (r.fr b o h n).step fun u q => s.kp b u nb q
  · obtain ⟨b, b1, b2⟩ := hk
    obtain ⟨b', b3, b4⟩ := w.at_
    rw [b1] at b3
    cases b3
    have := r.ref p hp
    rw [hA p hp, b4] at this
    have e2 : b = p.2 := by injection this with this; injection this with this; injection this
    subst e2
    rcases ok.shape (List.mem_of_getElem? b2) with ⟨xs, h⟩ | ⟨C, dx, fs, h⟩
    · exact ⟨_, h⟩
    · exact ⟨_, h⟩
  · have z : j = i := by
      by_cases z : j = i
      · exact z
      · exact w.one j ar2 k2 (h2 j _ z h)
    subst z
    rw [h1] at h
    cases h
    obtain ⟨b, b1, b2⟩ := hk
    obtain ⟨b', b3, b4⟩ := w.at_
    rw [b1] at b3
    cases b3
    refine ⟨as', ok, ⟨b, b2, b4⟩, nw, fun l ar3 k3 g => ?_, fun l k3 g => ?_, fun l ds c g1 g2 m => ?_, fun l c nn dd g => w.noi l c nn dd (back l _ g (fun y z => by cases z))⟩
    · by_cases z : l = j
      · exact z
      · exact w.one l ar3 k3 (h2 l _ z g)
    · by_cases z : l = j
      · subst z
        rw [h1] at g
        cases g
      · obtain ⟨c, c1, c2⟩ := w.ptr l k3 (h2 l _ z g)
        exact ⟨c, hp l k3 c g c1, c2⟩
    · have g1' := back l _ g1 (fun y z => by cases z)
      rcases hn c m with h | h
      · exact w.own l ds c g1' g2 h
      · exact h.2 l ds g1' g2
theorem SR.newA (r : SR K mg H0 A σ H ρ) {b : Addr} (h : H b = Option.none) : H0 b = Option.none ∧ ∀ (j : Nat) (ds : List D), ρ[j]? = some (some (MV.own ds)) → σ[j]? ≠ some (some (V.ref b)) :=
  ⟨r.fresh h, fun j ds g z => by
    obtain ⟨b5, xs, q1, q2, q3, q4⟩ := r.own j ds g
    rw [z] at q1
    cases q1
    rw [h] at q2
    cases q2⟩
end
end ML


namespace ML
open PySem PySem.Spec PyProof.Rows L2
variable [Tabs]
structure LPt (X : Cx) (e : Expr) (p : Pa) : Prop where
  run : PE X e (fun σ H Q => ∃ v, walk X.K σ H p v ∧ Q v H)
section
variable {X : Cx}
theorem lp_name {i : Nat} {x : Str} {px : Pos} (hN : X.N[i]? = some x) (hv : Vis X.env.scope x) (hd : (x == ("__debug__" : Str)) = false := by decide) (hcd : (x == ("__classdict__" : Str)) = false := by decide) : LPt X (.Name x px) (.slot i) :=
  ⟨(pe_var hN hv hd hcd).imp fun σ H Q ⟨v, h, q⟩ => ⟨v, h, q⟩⟩
theorem lp_fld {e : Expr} {p : Pa} {f : Str} {pos : Pos} (h : LPt X e p) (hb : attributeBase e f X.env (eval e X.env) = eval e X.env := by rfl) : LPt X (.Attribute e f pos) (.fld p f) :=
  ⟨(pe_fld h.run hb).imp fun σ H Q ⟨v, ⟨a, C, dx, fs, h1, h2, h3, h4, h5⟩, q⟩ => ⟨.ref a, h1, a, C, dx, fs, v, rfl, h2, h3, h4, h5, q⟩⟩
theorem lp_ix {e b : Expr} {p : Pa} {c : Int} {pos : Pos} (h : LPt X e p) (hb : PE X b (tC (.int c))) (hs : PlainIx b) : LPt X (.Subscript e b pos) (.idx p c) :=
  ⟨(pe_ix ix_list h.run hb hs).imp fun σ H Q ⟨v, ⟨a, xs, h1, h2, h3⟩, q⟩ => ⟨.ref a, h1, a, xs, c, v, rfl, rfl, .inl (.inl h2), h3, q⟩⟩
theorem pe_neg {c : Int} {j : Nat} {p1 p2 : Pos} : PE X (.UnaryOp .USub (.Constant (.int c) j p1) p2) (tC (.int (-c))) := (pe_un un_neg pe_int).imp fun σ H Q q => ⟨c, rfl, q⟩
def walks (K : PySem.W.Frag) (σ : L2.St) (H : Hp) : List Pa → List V → Prop
  | [], vs => vs = []
  | p :: ps, vs => ∃ v r, vs = v :: r ∧ walk K σ H p v ∧ walks K σ H ps r
structure LPts (X : Cx) (es : List Expr) (ps : List Pa) : Prop where
  run : PA X es (fun σ H Q => ∃ vs, walks X.K σ H ps vs ∧ Q vs H)
theorem lps_nil : LPts X [] [] := ⟨pa_nil.imp fun σ H Q ⟨vs, h, q⟩ => by cases h; exact q⟩
theorem lps_cons {e : Expr} {es : List Expr} {p : Pa} {ps : List Pa} (h : LPt X e p) (t : LPts X es ps) (hs : starEach (e :: es) X.env = (false, eval e X.env) :: starEach es X.env := by rfl) : LPts X (e :: es) (p :: ps) :=
  ⟨(pa_cons h.run t.run hs).imp fun σ H Q ⟨vs, ⟨v, r, ev, h1, h2⟩, q⟩ => ⟨v, h1, r, h2, by subst ev; exact q⟩⟩
end
def pathV (ρ : En) (r : Nat) (p : Pa) : Option AV := match arS ρ r with
  | some (ar, _) => avOf ar ρ p
  | none => none
def pathD (ρ : En) (r : Nat) (p : Pa) : Option D := match pathV ρ r p with
  | some (.dat d) => some d
  | _ => none
def pathsD (ρ : En) (r : Nat) : List Pa → Option (List D)
  | [] => some []
  | p :: ps => match pathD ρ r p with
    | some d => (match pathsD ρ r ps with
      | some ds => some (d :: ds)
      | none => none)
    | none => none
def pathL (ρ : En) (r : Nat) (p : Pa) : Option (List AV) := match arS ρ r with
  | some (ar, _) => (match avOf ar ρ p with
    | some (.ptr k) => (match ar[k]? with
      | some (.lst xs) => some xs
      | _ => none)
    | _ => none)
  | none => none
def datsA : List AV → Option (List D)
  | [] => some []
  | .dat d :: r => match datsA r with
    | some ds => some (d :: ds)
    | none => none
  | .ptr _ :: _ => none
section
variable {K : PySem.W.Frag} {mg : Str → Option Value} {H0 H H' : Hp} {A : List (Nat × Addr)} {σ : L2.St} {ρ : En} {as : List Addr} {ar : List AO} {r : Nat} {p : Pa}
theorem pathV_at (h : SR K mg H0 A σ H ρ) {x : AV} (e : pathV ρ r p = some x) : ∃ ar k as v, arS ρ r = some (ar, k) ∧ NsW K mg H0 A σ H ρ r ar k as ∧ avOf ar ρ p = some x ∧ walk K σ H p v ∧ AVr K mg H as v x := by
  unfold pathV at e
  split at e
  · rename_i ar k e1
    obtain ⟨as, w⟩ := h.nst r ar k (arS_eq e1)
    obtain ⟨v, h1, h2⟩ := walk_of h (arS_eq e1) w e
    exact ⟨ar, k, as, v, e1, w, e, h1, h2⟩
  · cases e
theorem pathD_at (h : SR K mg H0 A σ H ρ) {d : D} (e : pathD ρ r p = some d) : ∃ v, walk K σ H p v ∧ RD K mg H v d := by
  unfold pathD at e
  split at e
  · rename_i d' e1
    cases e
    obtain ⟨ar, k, as, v, _, _, _, h1, h2⟩ := pathV_at h e1
    exact ⟨v, h1, h2⟩
  · cases e
theorem pathsD_at (h : SR K mg H0 A σ H ρ) : ∀ {ps : List Pa} {ds : List D}, pathsD ρ r ps = some ds → ∃ vs, walks K σ H ps vs ∧ RDs K mg H vs ds
  | [], ds, e => by
    cases e
    exact ⟨[], rfl, .nil⟩
  | p :: ps, ds, e => by
    unfold pathsD at e
    split at e
    · rename_i d e1
      split at e
      · rename_i ds' e2
        cases e
        obtain ⟨v, h1, h2⟩ := pathD_at h e1
        obtain ⟨vs, h3, h4⟩ := pathsD_at h e2
        exact ⟨v :: vs, ⟨v, vs, rfl, h1, h3⟩, .cons h2 h4⟩
      · cases e
    · cases e
theorem datsA_rd : ∀ {xs : List AV} {vs : List V} {ds : List D}, datsA xs = some ds → AVs K mg H as vs xs → RDs K mg H vs ds
  | [], [], ds, e, h => by cases e; exact .nil
  | [], _ :: _, ds, e, h => by have := h.len; simp at this
  | x :: xs, [], ds, e, h => by have := h.len; simp at this
  | .dat d :: xs, v :: vs, ds, e, h => by
    unfold datsA at e
    split at e
    · rename_i ds' e1
      cases e
      exact .cons (h.at_ 0 v (.dat d) rfl rfl) (datsA_rd e1 ⟨by simpa using h.len, fun j v' x h1 h2 => h.at_ (j + 1) v' x (by simpa using h1) (by simpa using h2)⟩)
    · cases e
  | .ptr _ :: xs, v :: vs, ds, e, h => by cases e
theorem pathL_at (h : SR K mg H0 A σ H ρ) {xs : List AV} (e : pathL ρ r p = some xs) : ∃ ar k as k' a vs, arS ρ r = some (ar, k) ∧ NsW K mg H0 A σ H ρ r ar k as ∧ avOf ar ρ p = some (.ptr k') ∧ ar[k']? = some (.lst xs) ∧ as[k']? = some a ∧ walk K σ H p (.ref a) ∧ H a = some (.lst vs) ∧ AVs K mg H as vs xs := by
  unfold pathL at e
  split at e
  · rename_i ar k e1
    split at e
    · rename_i k' e2
      split at e
      · rename_i xs' e3
        cases e
        obtain ⟨as, w⟩ := h.nst r ar k (arS_eq e1)
        obtain ⟨v, h1, a, h2, rfl⟩ := walk_of h (arS_eq e1) w e2
        obtain ⟨vs, h3, h4⟩ := w.ok.obj k' _ a e3 h2
        exact ⟨ar, k, as, k', a, vs, e1, w, e2, e3, h2, h1, h3, h4⟩
      · cases e
    · cases e
  · cases e
end
def eP (r : Nat) (p : Pa) : ME := fun ρ => match pathD ρ r p with
  | some d => .ok (d, ρ)
  | none => .stuck
def eLenP (r : Nat) (p : Pa) : ME := fun ρ => match pathL ρ r p with
  | some xs => .ok (.int (xs.length : Int), ρ)
  | none => .stuck
def eTupP (r : Nat) (p : Pa) : ME := fun ρ => match pathL ρ r p with
  | some xs => (match datsA xs with
    | some ds => .ok (.tup ds, ρ)
    | none => .stuck)
  | none => .stuck
section
variable {X : Cx} {EW : XK} {rf : List Nat} {r : Nat} {e : Expr} {p : Pa} {y : Str} {pp pos : Pos}
theorem le_P (h : LPt X e p) : LE X EW rf e (eP r p) := by
  refine ⟨fun H0 A hA => h.run.imp fun σ H Q ⟨ρ, sr, q⟩ => ?_⟩
  unfold eP at q
  cases ed : pathD ρ r p with
  | some d =>
    rw [ed] at q
    obtain ⟨v, h1, h2⟩ := pathD_at sr ed
    exact ⟨v, h1, q v H sr (Ext.refl H) h2⟩
  | none => rw [ed] at q; exact q.elim
theorem le_lenP (h : LPt X e p) (hg : Gl X y) (hm : X.mg y = none) (hb : bootBuiltins y = some (.builtin "len")) (hn : y ≠ "__name__" := by decide)
    (hdb : (y == ("__debug__" : Str)) = false := by decide) (he : starEach [e] X.env = (false, eval e X.env) :: starEach [] X.env := by rfl) (hpl : (backTo pos (starEach [] X.env)).any (·.1) = false := by rfl) :
    LE X EW rf (.Call (.Name y pp) [e] [] pos) (eLenP r p) := by
  refine ⟨fun H0 A hA => (pe_callB call_len_seq hg hm hb (pa_cons h.run pa_nil he) hn hdb he hpl).imp fun σ H Q ⟨ρ, sr, q⟩ => ?_⟩
  unfold eLenP at q
  cases ed : pathL ρ r p with
  | some xs =>
    rw [ed] at q
    obtain ⟨ar, k, as, k', a, vs, h1, w, h2, h3, h4, h5, h6, h7⟩ := pathL_at sr ed
    refine ⟨.ref a, h5, a, vs, rfl, .inl (.inl (.inl h6)), ?_⟩
    rw [h7.len]
    exact q _ H sr (Ext.refl H) (RD.int _)
  | none => rw [ed] at q; exact q.elim
theorem le_tupP (h : LPt X e p) (hg : Gl X y) (hm : X.mg y = none) (hb : bootBuiltins y = some (.type "tuple")) (hn : y ≠ "__name__" := by decide)
    (hdb : (y == ("__debug__" : Str)) = false := by decide) (he : starEach [e] X.env = (false, eval e X.env) :: starEach [] X.env := by rfl) (hpl : (backTo pos (starEach [] X.env)).any (·.1) = false := by rfl) :
    LE X EW rf (.Call (.Name y pp) [e] [] pos) (eTupP r p) := by
  refine ⟨fun H0 A hA => (pe_callTy call_tupleZ hg hm hb (pa_cons h.run pa_nil he) hn hdb he hpl).imp fun σ H Q ⟨ρ, sr, q⟩ => ?_⟩
  unfold eTupP at q
  cases ed : pathL ρ r p with
  | some xs =>
    rw [ed] at q
    simp only at q
    obtain ⟨ar, k, as, k', a, vs, h1, w, h2, h3, h4, h5, h6, h7⟩ := pathL_at sr ed
    cases ex : datsA xs with
    | some ds =>
      rw [ex] at q
      exact ⟨.ref a, h5, a, vs, rfl, .inl ⟨.inl (.inl h6), fun l o hl hd => new_tuple hl hd (datsA_rd ex h7) fun v H' s rd => q v H' (sr.same s) (Ext.of_same s) rd⟩⟩
    | none => rw [ex] at q; exact q.elim
  | none => rw [ed] at q; exact q.elim
end
def datO : Option MV → Option MV
  | some (.dat d) => some (.dat d)
  | _ => none
def datsE (ρ : En) : En := ρ.map datO
theorem datsE_at {ρ : En} {i : Nat} {x : MV} (h : (datsE ρ)[i]? = some (some x)) : ∃ d, x = .dat d ∧ ρ[i]? = some (some (.dat d)) := by
  unfold datsE at h
  rw [List.getElem?_map] at h
  cases e : ρ[i]? with
  | none => rw [e] at h; cases h
  | some y =>
    rw [e] at h
    cases y with
    | none => cases h
    | some z =>
      cases z with
      | dat d => cases h; exact ⟨d, rfl, rfl⟩
      | own ds => cases h
      | nst x => cases h
      | ins c nn dd => cases h
theorem SR.dats {K : PySem.W.Frag} {mg : Str → Option Value} {H0 H : Hp} {A : List (Nat × Addr)} {σ : L2.St} {ρ : En} (r : SR K mg H0 A σ H ρ) : SR K mg H [] σ H (datsE ρ) := by
  refine ⟨by unfold datsE; rw [List.length_map]; exact r.len, fun i d h => ?_, fun i ds h => ?_, fun i j ds ds' a n h => ?_, fun b o h _ => .of h, (fun p hp => by cases hp), (fun p hp => by cases hp), r.tb, Nso.none fun i x h => ?_, Iso.none fun i c nn dd h => ?_⟩
  · obtain ⟨d', e, h'⟩ := datsE_at h
    cases e
    exact r.dat i d h'
  · obtain ⟨d', e, h'⟩ := datsE_at h; cases e
  · obtain ⟨d', e, h'⟩ := datsE_at h; cases e
  · obtain ⟨d', e, h'⟩ := datsE_at h; cases e
  · obtain ⟨d', e, h'⟩ := datsE_at h; cases e
def rF (X : Cx) (EW : XK) (H0 : Hp) (A : List (Nat × Addr)) (g : En → Res (List D)) (σ : L2.St) (H : Hp) (Q : List V → Hp → Prop) : Prop := ∃ ρ, SR X.K X.mg H0 A σ H ρ ∧ match g ρ with
  | .ok ds => ∀ vs H1, Sm H H1 → RDs X.K X.mg H1 vs ds → Q vs H1
  | .exn c fs => wX X EW H0 A c fs
  | .stuck => False
structure LF (X : Cx) (EW : XK) (rf : List Nat) (es : List Expr) (g : En → Res (List D)) : Prop where
  run : ∀ H0 A, A.map (·.1) = rf → PA X es (rF X EW H0 A g)
def fOf (m : MA) : En → Res (List D) := fun ρ => match m (datsE ρ) with
  | .ok (ds, _) => .ok ds
  | .exn c fs => .exn c fs
  | .stuck => .stuck
def fPs (r : Nat) (ps : List Pa) : En → Res (List D) := fun ρ => match pathsD ρ r ps with
  | some ds => .ok ds
  | none => .stuck
section
variable {X : Cx} {EW : XK} {rf : List Nat} {r : Nat} {es : List Expr}
theorem Sm.refl' {K : PySem.W.Frag} {mg : Str → Option Value} {H0 H : Hp} {A : List (Nat × Addr)} {σ : L2.St} {ρ : En} (r : SR K mg H0 A σ H ρ) : Sm H H := ⟨fun b o q => .of q, r.tb⟩
theorem lf_of {m : MA} (h : LA X EW [] es m) : LF X EW rf es (fOf m) := by
  refine ⟨fun H0 A hA => ⟨fun pos pins s σ H Q I ⟨ρ, sr, q⟩ => ((h.run H [] rfl).run pos pins s σ H Q I ⟨datsE ρ, sr.dats, ?_⟩)⟩⟩
  unfold fOf at q
  cases em : m (datsE ρ) with
  | ok z =>
    obtain ⟨ds, ρ1⟩ := z
    rw [em] at q
    exact fun vs H1 r1 x1 rv => q vs H1 ⟨fun b o hb => r1.fr b o hb (by simp), r1.tb⟩ rv
  | exn c fs =>
    rw [em] at q
    exact fun cls dd H' ex f => q cls dd H' ex ⟨fun b o hb nb => (sr.fr b o hb nb).step fun u z => f.kp b u z (by simp), f.tb⟩
  | stuck => rw [em] at q; exact q.elim
theorem lf_paths {ps : List Pa} (h : LPts X es ps) : LF X EW rf es (fPs r ps) := by
  refine ⟨fun H0 A hA => h.run.imp fun σ H Q ⟨ρ, sr, q⟩ => ?_⟩
  unfold fPs at q
  cases ed : pathsD ρ r ps with
  | some ds =>
    rw [ed] at q
    obtain ⟨vs, h1, h2⟩ := pathsD_at sr ed
    exact ⟨vs, h1, q vs H (Sm.refl' sr) h2⟩
  | none => rw [ed] at q; exact q.elim
end
end ML


namespace ML
open PySem PySem.Spec PyProof.Rows L2
variable [Tabs]
def spA (K : PySem.W.Frag) (mg : Str → Option Value) (F : List AO → Nat → List D → Res (D × List AO)) : Sp := fun vs H Q E => ∃ (as : List Addr) (ar : List AO) (k : Nat) (b : Addr) (vr : List V) (ds : List D), vs = .ref b :: vr ∧ as[k]? = some b ∧ Aok K mg H as ar ∧ RDs K mg H vr ds ∧ (∀ P, Tabs.T P → GxR.TabG H P) ∧ match F ar k ds with
  | .ok (d, ar') => ∀ v H' as', SmL as H H' → (∀ c ∈ as', c ∈ as ∨ H c = none) → Aok K mg H' as' ar' → as'[k]? = some b → RD K mg H' v d → Q v H'
  | .exn c fs => ∀ cls e' H', ExR K mg c fs cls e' H' → SmL as H H' → E cls e' H'
  | .stuck => False
def hout (as : List Addr) (H : Hp) : Hp := fun b => if b ∈ as then none else H b
theorem hout_some {as : List Addr} {H : Hp} {b : Addr} {o : HO} (h : hout as H b = some o) : b ∉ as ∧ H b = some o := by
  unfold hout at h
  split at h
  · cases h
  · rename_i n; exact ⟨n, h⟩
theorem hout_in {as : List Addr} {H : Hp} {b : Addr} (h : b ∈ as) : hout as H b = none := if_pos h
theorem hout_out {as : List Addr} {H : Hp} {b : Addr} (h : b ∉ as) : hout as H b = H b := if_neg h
theorem hout_none {as : List Addr} {H : Hp} {b : Addr} (h : hout as H b = none) : b ∈ as ∨ H b = none := by
  unfold hout at h
  split at h
  · rename_i m; exact .inl m
  · exact .inr h
def _root_.ML.Fl.outA (k : Nat) : Fl → Res (D × List AO)
  | .rt d ρ => (match arS ρ 0 with
    | some (ar, k') => if k' = k then .ok (d, ar) else .stuck
    | none => .stuck)
  | .nx ρ => (match arS ρ 0 with
    | some (ar, k') => if k' = k then .ok (.non, ar) else .stuck
    | none => .stuck)
  | _ => .stuck
def runA (n m : Nat) (b : MS) (ar : List AO) (k : Nat) (ds : List D) : Res (D × List AO) := if ds.length + 1 = m then (match b (startE n (MV.nst (.root ar k) :: ds.map MV.dat)) with
  | .ok f => f.outA k
  | .exn c fs => .exn c fs
  | .stuck => .stuck) else .stuck
theorem sr_startA {K : PySem.W.Frag} {mg : Str → Option Value} {H : Hp} {N : List Str} {as : List Addr} {ar : List AO} {k : Nat} {b : Addr} {vr : List V} {ds : List D} (hk : as[k]? = some b) (ok : Aok K mg H as ar) (r : RDs K mg H vr ds) (tb : ∀ P, Tabs.T P → GxR.TabG H P) :
    SR K mg (hout as H) [(0, b)] (L2.start N (.ref b :: vr)) H (startE N.length (MV.nst (.root ar k) :: ds.map MV.dat)) := by
  refine ⟨?_, fun i d h => ?_, fun i zs h => ?_, fun i j d1 d2 c hij h1 h2 h3 h4 => ?_, fun c o h _ => .of (hout_some h).2, fun p hp => ?_, fun p hp => ?_, tb, fun i ar' k' h => ?_, Iso.none fun i c nn dd h => ?_⟩
  · unfold startE L2.start
    simp [r.length]
  · rcases startO_cases h with ⟨_, e⟩ | ⟨j, d', rfl, hd, e⟩
    · cases e
    · cases e
      obtain ⟨v, h1, h2⟩ := r.get hd
      exact ⟨v, start_get (by simpa using h1), h2⟩
  · rcases startO_cases h with ⟨rfl, e⟩ | ⟨j, d', rfl, hd, e⟩ <;> cases e
  · rcases startO_cases h1 with ⟨rfl, e⟩ | ⟨j, d', rfl, hd, e⟩ <;> cases e
  · have e : p = (0, b) := by simpa using hp
    subst e
    exact start_get rfl
  · have e : p = (0, b) := by simpa using hp
    subst e
    rcases ok.shape (List.mem_of_getElem? hk) with ⟨xs, h⟩ | ⟨C, dx, fs, h⟩
    · exact ⟨_, h⟩
    · exact ⟨_, h⟩
  · rcases startO_cases h with ⟨rfl, e⟩ | ⟨j, d', rfl, hd, e⟩
    · cases e
      refine ⟨as, ok, ⟨b, hk, start_get rfl⟩, fun c hc => hout_in hc, fun j ar2 k2 g => ?_, fun j k2 g => ?_, fun j zs c g _ _ => ?_, fun j c nn dd g => ?_⟩
      · rcases startO_cases g with ⟨rfl, e⟩ | ⟨l, d', rfl, hd, e⟩
        · rfl
        · cases e
      · rcases startO_cases g with ⟨rfl, e⟩ | ⟨l, d', rfl, hd, e⟩ <;> cases e
      · rcases startO_cases g with ⟨rfl, e⟩ | ⟨l, d', rfl, hd, e⟩ <;> cases e
      · rcases startO_cases g with ⟨rfl, e⟩ | ⟨l, d', rfl, hd, e⟩ <;> cases e
    · cases e
  · rcases startO_cases h with ⟨rfl, e⟩ | ⟨l, d', rfl, hd, e⟩ <;> cases e
section
variable {P : Program} {w : World} {K : PySem.W.Frag} {mg : Str → Option Value} {base : Heap} {x qual : Str} {params : Arguments} {body : List Stmt} {scope : Scope} {dvs : List V} {kws : List (Str × V)} {f : Addr} {fd : FuncData} {N ps : List Str} {k : Nat} {cn : Str}
theorem okDA (F : FunD K x qual params body scope dvs kws f fd) (S : FnScope N ps scope) (b : MS) (hb : BodyOE P w K mg base N qual scope body k b) : FnG P w K mg base (k + 1) f fd ps (spA K mg (runA N.length ps.length b)) := by
  obtain ⟨oc, od, dV, kV, doc, pm, an, cdv, ct, osl, rfl, lk, hcd, _, _⟩ := F.ex
  refine fnG_of lk hcd S (fun vs H Q E h => ?_) fun A outer s H vs Q E hr hg h => ?_
  · obtain ⟨as, ar, kk, a, vr, ds, rfl, hk, ok, r, tb, h⟩ := h
    by_cases hl : ds.length + 1 = ps.length
    · rw [List.length_cons, r.length]; exact hl
    · unfold runA at h
      rw [if_neg hl] at h
      exact h.elim
  · obtain ⟨as, ar, kk, a, vr, ds, rfl, hk, ok, r, tb, h⟩ := h
    have hl : ds.length + 1 = ps.length := by
      by_cases hl : ds.length + 1 = ps.length
      · exact hl
      · unfold runA at h
        rw [if_neg hl] at h
        exact h.elim
    unfold runA at h
    rw [if_pos hl] at h
    refine ⟨_, (hb f cdv A outer s H E (cok_of hr hg S.nd)).run (hout as H) [(0, a)] rfl, startE N.length (MV.nst (.root ar kk) :: ds.map MV.dat), sr_startA hk ok r tb, ?_⟩
    have sm : ∀ {σ' : L2.St} {H' : Hp} {ρ' : En}, SR K mg (hout as H) [(0, a)] σ' H' ρ' → SmL as H H' := fun q => ⟨fun b o n e => q.fr b o (by rw [hout_out n]; exact e) (fun z => n (by
      have z : b = a := by simpa using z
      rw [z]; exact List.mem_of_getElem? hk)), q.tb⟩
    have out : ∀ {σ' : L2.St} {H' : Hp} {ρ' : En} {ar' : List AO}, SR K mg (hout as H) [(0, a)] σ' H' ρ' → arS ρ' 0 = some (ar', kk) → ∃ as', (∀ c ∈ as', c ∈ as ∨ H c = none) ∧ Aok K mg H' as' ar' ∧ as'[kk]? = some a := fun {σ' H' ρ' ar'} q e => by
      obtain ⟨as', w'⟩ := q.nst 0 ar' kk (arS_eq e)
      obtain ⟨b2, h1, h2⟩ := w'.at_
      have := q.ref (0, a) (by simp)
      rw [h2] at this
      cases this
      exact ⟨as', fun c hc => hout_none (w'.new c hc), w'.ok, h1⟩
    cases eb : b (startE N.length (MV.nst (.root ar kk) :: ds.map MV.dat)) with
    | ok fl =>
      rw [eb] at h
      cases fl with
      | nx ρ =>
        simp only [Fl.outA] at h
        cases eo : arS ρ 0 with
        | none => rw [eo] at h; exact h.elim
        | some z =>
          obtain ⟨ar', k'⟩ := z
          rw [eo] at h
          simp only at h
          by_cases hkk : k' = kk
          · subst hkk
            rw [if_pos rfl] at h
            intro σ' H' r' x'
            obtain ⟨as', h1, h2, h3⟩ := out r' eo
            exact h .non H' as' (sm r') h1 h2 h3 .non
          · rw [if_neg hkk] at h; exact h.elim
      | rt d ρ =>
        simp only [Fl.outA] at h
        cases eo : arS ρ 0 with
        | none => rw [eo] at h; exact h.elim
        | some z =>
          obtain ⟨ar', k'⟩ := z
          rw [eo] at h
          simp only at h
          by_cases hkk : k' = kk
          · subst hkk
            rw [if_pos rfl] at h
            intro v σ' H' r' x' rd
            obtain ⟨as', h1, h2, h3⟩ := out r' eo
            exact h v H' as' (sm r') h1 h2 h3 rd
          · rw [if_neg hkk] at h; exact h.elim
      | bk ρ => exact h.elim
      | ct ρ => exact h.elim
    | exn c fs =>
      rw [eb] at h
      exact fun cls e' H' ex fr => h cls e' H' ex ⟨fun b o n e => fr.kp b o (by rw [hout_out n]; exact e) (fun z => n (by
        have z : b = a := by simpa using z
        rw [z]; exact List.mem_of_getElem? hk)), fr.tb⟩
    | stuck => rw [eb] at h; exact h.elim
end
def ptrO : Option MV → Option MV
  | some (.nst (.ptr _)) => none
  | x => x
def dropP (ρ : En) : En := ρ.map ptrO
def setA (ρ : En) (r : Nat) (ar : List AO) (k : Nat) : En := (dropP ρ).set r (some (.nst (.root ar k)))
theorem dropP_at {ρ : En} {i : Nat} {x : MV} (h : (dropP ρ)[i]? = some (some x)) : ρ[i]? = some (some x) ∧ ∀ k, x ≠ .nst (.ptr k) := by
  unfold dropP at h
  rw [List.getElem?_map] at h
  cases e : ρ[i]? with
  | none => rw [e] at h; cases h
  | some y =>
    rw [e] at h
    cases y with
    | none => cases h
    | some z =>
      cases z with
      | dat d => cases h; exact ⟨rfl, fun k z => by cases z⟩
      | own ds => cases h; exact ⟨rfl, fun k z => by cases z⟩
      | nst x =>
        cases x with
        | root ar k => cases h; exact ⟨rfl, fun k z => by cases z⟩
        | ptr k => cases h
      | ins c nn dd => cases h; exact ⟨rfl, fun k z => by cases z⟩
theorem dropP_len (ρ : En) : (dropP ρ).length = ρ.length := by unfold dropP; rw [List.length_map]
def methEndA (F : List AO → Nat → List D → Res (D × List AO)) (r : Nat) (ds : List D) (ρ : En) : Res (D × En) := match arS ρ r with
  | some (ar, k) => (match F ar k ds with
    | .ok (d, ar') => .ok (d, setA ρ r ar' k)
    | .exn c fs => .exn c fs
    | .stuck => .stuck)
  | none => .stuck
def insAt (ar : List AO) (k : Nat) (cn m : Str) : Bool := match ar[k]? with
  | some (.ins c nn _) => decide (c = cn ∧ m ∉ nn)
  | _ => false
theorem insAt_eq {ar : List AO} {k : Nat} {cn m : Str} (h : insAt ar k cn m = true) : ∃ nn vs, ar[k]? = some (.ins cn nn vs) ∧ m ∉ nn := by
  unfold insAt at h
  split at h
  · rename_i c nn vs e
    obtain ⟨rfl, h2⟩ := of_decide_eq_true h
    exact ⟨nn, vs, e, h2⟩
  · cases h
def eMethA (F : List AO → Nat → List D → Res (D × List AO)) (r : Nat) (cn m : Str) (ma : MA) : ME := fun ρ => match arS ρ r with
  | some (ar, k) => if insAt ar k cn m = true then mThen ma (methEndA F r) ρ else .stuck
  | none => .stuck
section
variable {K : PySem.W.Frag} {mg : Str → Option Value} {H0 H H' : Hp} {A : List (Nat × Addr)} {σ : L2.St} {ρ : En} {as as' : List Addr} {ar ar' : List AO} {r k : Nat}
theorem lt_of_some {α : Type} {xs : List α} {i : Nat} {x : α} (h : xs[i]? = some x) : i < xs.length := (List.getElem?_eq_some_iff.mp h).1
theorem SR.setA (q : SR K mg H0 A σ H ρ) (hA : ∀ p ∈ A, p.1 = r) (hi : arS ρ r = some (ar, k)) (w : NsW K mg H0 A σ H ρ r ar k as) (s : SmL as H H') (hn : ∀ b ∈ as', b ∈ as ∨ H b = Option.none) (ok : Aok K mg H' as' ar') {b : Addr} (h1 : as[k]? = some b) (h2 : as'[k]? = some b) : SR K mg H0 A σ H' (ML.setA ρ r ar' k) := by
  have hlt : r < (dropP ρ).length := by rw [dropP_len]; exact lt_of_some (arS_eq hi)
  refine q.mutA (ρ' := ML.setA ρ r ar' k) (k' := k) hA (arS_eq hi) w s (fun c hc => (hn c hc).imp id q.newA) ok ⟨b, h1, h2⟩ ?_ (List.getElem?_set_self hlt) (fun j x n g => ?_) (fun j l c g => ?_)
  · unfold ML.setA
    rw [List.length_set, dropP_len]
  · unfold ML.setA at g
    rw [List.getElem?_set_ne (fun z => n z.symm)] at g
    exact (dropP_at g).1
  · unfold ML.setA at g
    rcases set_gt g with ⟨_, e⟩ | ⟨_, g⟩
    · cases e
    · exact absurd rfl ((dropP_at g).2 l)
end
section
variable {X : Cx} {EW : XK} {rf : List Nat} {k j r : Nat} {x m cn : Str} {e : Expr} {es : List Expr} {F : List AO → Nat → List D → Res (D × List AO)} {ma : MA} {px apos pos : Pos} {pl : Sem Bool} {ps : List Str}
theorem rf_A {A : List (Nat × Addr)} (hA : A.map (·.1) = rf) (hr : ∀ j ∈ rf, j = r) : ∀ p ∈ A, p.1 = r := fun p hp => hr _ (hA ▸ List.mem_map_of_mem hp)
theorem methEndA_run {H0 H : Hp} {A : List (Nat × Addr)} {σ : L2.St} {a : Addr} {vs : List V} {ds : List D} {Q : VK} {EW : XK} (hA : ∀ p ∈ A, p.1 = r) (hs : σ[r]? = some (some (V.ref a))) (rv : RDs X.K X.mg H vs ds)
    (q : rM X EW H0 A (RE X) (methEndA F r ds) σ H Q) : spA X.K X.mg F (.ref a :: vs) H Q EW := by
  obtain ⟨ρ, sr, q⟩ := q
  unfold methEndA at q
  cases es : arS ρ r with
  | none => rw [es] at q; exact q.elim
  | some z =>
    obtain ⟨ar, kk⟩ := z
    rw [es] at q
    simp only at q
    obtain ⟨as, w⟩ := sr.nst r ar kk (arS_eq es)
    obtain ⟨b, h1, h2⟩ := w.at_
    rw [hs] at h2
    cases h2
    refine ⟨as, ar, kk, a, vs, ds, rfl, h1, w.ok, rv, sr.tb, ?_⟩
    cases ef : F ar kk ds with
    | ok p =>
      obtain ⟨d, ar'⟩ := p
      rw [ef] at q
      simp only at q
      intro v H' as' s hn ok hk rd
      exact q v H' (sr.setA hA es w s hn ok h1 hk) (s.ext w.ok) rd
    | exn c fs =>
      rw [ef] at q
      exact fun cls e' H' ex s => q cls e' H' ex ⟨fun b o hb nb => (sr.fr b o hb nb).step fun u z => s.kp b u (fun m => by rw [w.new b m] at hb; cases hb) z, s.tb⟩
    | stuck => rw [ef] at q; exact q.elim
theorem le_methA (Fm : FnM X.prog X.w X.K X.mg X.base j cn m ps (spA X.K X.mg F)) (c : Cok X EW k) (hj : j ≤ k) (hrf : ∀ j ∈ rf, j = r) (hN : X.N[r]? = some x) (hv : Vis X.env.scope x) (ha : LA X EW rf (e :: es) ma)
    (hd : (x == ("__debug__" : Str)) = false := by decide) (hcd : (x == ("__classdict__" : Str)) = false := by decide)
    (hst : starEach (e :: es) X.env = (false, eval e X.env) :: starEach es X.env := by rfl) (hpl : (backTo pos (starEach es X.env)).any (·.1) = false := by rfl)
    (ht : eval (.Call (.Attribute (.Name x px) m apos) (e :: es) [] pos) X.env = (do
      let ov ← eval (.Name x px) X.env
      standAt apos.atName
      let (f, first) ← holding [ov] (getMethod ov m pl)
      callWith pos f first (backTo pos (starEach (e :: es) X.env)) (backToKw pos (keywordEach [] X.env))) := by rfl) :
    LE X EW rf (.Call (.Attribute (.Name x px) m apos) (e :: es) [] pos) (eMethA F r cn m ma) := by
  obtain ⟨C, g, fd, hC, hM, hb, FG⟩ := Fm.ex
  refine ⟨fun H0 A hA => ⟨fun pins s σ H Q I q => ?_⟩⟩
  obtain ⟨ρ, sr, q⟩ := q
  unfold eMethA at q
  cases es0 : arS ρ r with
  | none => rw [es0] at q; exact q.elim
  | some z =>
    obtain ⟨ar, kk⟩ := z
    rw [es0] at q
    simp only at q
    by_cases hi : insAt ar kk cn m = true
    · rw [if_pos hi] at q
      obtain ⟨nn, xs, ei, hm⟩ := insAt_eq hi
      obtain ⟨as, w⟩ := sr.nst r ar kk (arS_eq es0)
      obtain ⟨a, h1, h2⟩ := w.at_
      obtain ⟨C', dx, vs, g1, g2, g3, g4, g5, g6⟩ := w.ok.obj kk _ a ei h1
      rw [hC] at g1
      cases g1
      refine methcall_of (pl := pl) (pe_var hN hv hd hcd) I ⟨.ref a, h2, a, C, dx, nn.zip vs, g, rfl, g5, g2, hM, lookup_none hm, fun s1 I1 => ?_⟩ ht
      refine PySem.W.callWith_K (first := [.ref a]) (h₀ := X.base) I1.ok.mod.kin hM.kp (thn ((ha.run H0 A hA).run pos pins s1 σ H _ I1 (rM.then (R := RA X) (R' := RE X) (Q := Q) ⟨ρ, sr, q⟩)) fun us s2 ⟨vs2, H2, I2, r2, ds2, rv, q2⟩ => ⟨I2.kIn, ?_⟩) hst hpl
      exact run_fnG (us := .ref a :: us) (vs := .ref a :: vs2) FG c hj hb I2 (.cons rfl r2) (methEndA_run (rf_A hA hrf) h2 rv q2)
    · rw [if_neg hi] at q; exact q.elim
theorem le_methA0 (Fm : FnM X.prog X.w X.K X.mg X.base j cn m ps (spA X.K X.mg F)) (c : Cok X EW k) (hj : j ≤ k) (hrf : ∀ j ∈ rf, j = r) (hN : X.N[r]? = some x) (hv : Vis X.env.scope x)
    (hd : (x == ("__debug__" : Str)) = false := by decide) (hcd : (x == ("__classdict__" : Str)) = false := by decide)
    (ht : eval (.Call (.Attribute (.Name x px) m apos) [] [] pos) X.env = (do
      let ov ← eval (.Name x px) X.env
      standAt apos.atName
      let (f, first) ← holding [ov] (getMethod ov m pl)
      callWith pos f first (backTo pos (starEach [] X.env)) (backToKw pos (keywordEach [] X.env))) := by rfl) :
    LE X EW rf (.Call (.Attribute (.Name x px) m apos) [] [] pos) (eMethA F r cn m aNil) := by
  obtain ⟨C, g, fd, hC, hM, hb, FG⟩ := Fm.ex
  refine ⟨fun H0 A hA => ⟨fun pins s σ H Q I q => ?_⟩⟩
  obtain ⟨ρ, sr, q⟩ := q
  unfold eMethA at q
  cases es0 : arS ρ r with
  | none => rw [es0] at q; exact q.elim
  | some z =>
    obtain ⟨ar, kk⟩ := z
    rw [es0] at q
    simp only at q
    by_cases hi : insAt ar kk cn m = true
    · rw [if_pos hi] at q
      obtain ⟨nn, xs, ei, hm⟩ := insAt_eq hi
      obtain ⟨as, w⟩ := sr.nst r ar kk (arS_eq es0)
      obtain ⟨a, h1, h2⟩ := w.at_
      obtain ⟨C', dx, vs, g1, g2, g3, g4, g5, g6⟩ := w.ok.obj kk _ a ei h1
      rw [hC] at g1
      cases g1
      refine methcall_of (pl := pl) (pe_var hN hv hd hcd) I ⟨.ref a, h2, a, C, dx, nn.zip vs, g, rfl, g5, g2, hM, lookup_none hm, fun s1 I1 => ?_⟩ ht
      refine PySem.W.callWith_K0 (first := [.ref a]) I1.kIn hM.kp ?_
      exact run_fnG (us := [.ref a]) (vs := [.ref a]) FG c hj hb I1 (.cons rfl .nil) (methEndA_run (rf_A hA hrf) (vs := []) (ds := []) h2 .nil ⟨ρ, sr, q⟩)
    · rw [if_neg hi] at q; exact q.elim
end
end ML


namespace ML
open PySem PySem.Spec PyProof.Rows L2
variable [Tabs]
section
variable {K : PySem.W.Frag} {mg : Str → Option Value} {H0 H H' : Hp} {A : List (Nat × Addr)} {σ : L2.St} {ρ : En} {as as' : List Addr} {ar ar' : List AO} {r k : Nat}
theorem AVs.cons {v : V} {x : AV} {vs : List V} {xs : List AV} (h : AVr K mg H as v x) (t : AVs K mg H as vs xs) : AVs K mg H as (v :: vs) (x :: xs) :=
  ⟨by rw [List.length_cons, List.length_cons, t.len], fun j v' x' h1 h2 => by
    cases j with
    | zero => cases h1; cases h2; exact h
    | succ j => exact t.at_ j v' x' (by simpa using h1) (by simpa using h2)⟩
theorem AVs.tail {v : V} {x : AV} {vs : List V} {xs : List AV} (t : AVs K mg H as (v :: vs) (x :: xs)) : AVr K mg H as v x ∧ AVs K mg H as vs xs :=
  ⟨t.at_ 0 v x rfl rfl, by have := t.len; simpa using this, fun j v' x' h1 h2 => t.at_ (j + 1) v' x' (by simpa using h1) (by simpa using h2)⟩
theorem AVs.nil : AVs K mg H as [] [] := ⟨rfl, fun j v x h => by simp at h⟩
theorem AVs.snoc {y : V} {x : AV} : ∀ {vs : List V} {xs : List AV}, AVs K mg H as vs xs → AVr K mg H as y x → AVs K mg H as (vs ++ [y]) (xs ++ [x])
  | [], [], _, h => .cons h .nil
  | [], _ :: _, t, _ => by have := t.len; simp at this
  | _ :: _, [], t, _ => by have := t.len; simp at this
  | v :: vs, x' :: xs, t, h => .cons t.tail.1 (AVs.snoc t.tail.2 h)
theorem AVs.setN {f : Str} {y : V} {x : AV} (h : AVr K mg H as y x) : ∀ (nn : List Str) {vs : List V} {xs : List AV}, AVs K mg H as vs xs → AVs K mg H as (ML.setN nn vs f y) (ML.setN nn xs f x)
  | [], [], [], t => t
  | [], [], _ :: _, t => by have := t.len; simp at this
  | [], _ :: _, [], t => by have := t.len; simp at this
  | [], _ :: _, _ :: _, t => t
  | _ :: _, [], [], t => t
  | _ :: _, [], _ :: _, t => by have := t.len; simp at this
  | _ :: _, _ :: _, [], t => by have := t.len; simp at this
  | n :: nn, v :: vs, x' :: xs, t => by
    unfold ML.setN
    split
    · exact .cons h t.tail.2
    · exact .cons t.tail.1 (AVs.setN h nn t.tail.2)
theorem AVs.take {vs : List V} {xs : List AV} (t : AVs K mg H as vs xs) : AVs K mg H as vs.dropLast xs.dropLast :=
  ⟨by rw [List.length_dropLast, List.length_dropLast, t.len], fun j v x h1 h2 => by
    rw [List.dropLast_eq_take, List.getElem?_take] at h1 h2
    split at h1
    · split at h2
      · exact t.at_ j v x h1 h2
      · cases h2
    · cases h1⟩
theorem AVs.dats : ∀ {vs : List V} {ds : List D}, RDs K mg H vs ds → AVs K mg H as vs (ds.map AV.dat)
  | [], [], _ => .nil
  | _ :: _, _ :: _, .cons h t => .cons h (AVs.dats t)
def putN {α : Type} (nn : List Str) (vs : List α) (f : Str) (y : α) : List Str × List α := if f ∈ nn then (nn, ML.setN nn vs f y) else (nn ++ [f], vs ++ [y])
theorem putF_putN {f : Str} {y : V} {nn : List Str} {vs : List V} (hl : nn.length = vs.length) : L2.putF f y (nn.zip vs) = (putN nn vs f y).1.zip (putN nn vs f y).2 := by
  unfold putN
  by_cases h : f ∈ nn
  · rw [if_pos h]; exact putF_zip h hl
  · rw [if_neg h, putF_new (fun m => h (by
      obtain ⟨z, hz, e⟩ := List.mem_map.mp m
      rw [← e]
      exact (List.of_mem_zip hz).1))]
    rw [List.zip_append hl]
    rfl
theorem AOr.put {a C dx : Addr} {cn f : Str} {nn : List Str} {xs : List AV} {vs : List V} {y : V} {x : AV} (hc : mg cn = some (Value.ref C)) (cl : L2.Cls K C) (hn : ∀ g ∈ nn, L2.NoAttr K C g) (hf : L2.NoAttr K C f) (hl : nn.length = vs.length)
    (h' : H' a = some (.ins C dx (L2.putF f y (nn.zip vs)))) (t : AVs K mg H' as vs xs) (hy : AVr K mg H' as y x) : AOr K mg H' as a (.ins cn (putN nn xs f x).1 (putN nn xs f x).2) := by
  have e : (putN nn xs f x).1 = (putN nn vs f y).1 := by
    unfold putN; split <;> rfl
  refine ⟨C, dx, (putN nn vs f y).2, hc, cl, fun g hg => ?_, ?_, ?_, ?_⟩
  · unfold putN at hg
    split at hg
    · exact hn g hg
    · rcases List.mem_append.mp hg with hg | hg
      · exact hn g hg
      · rw [List.mem_singleton.mp hg]; exact hf
  · unfold putN
    split
    · show nn.length = (ML.setN nn vs f y).length
      rw [setN_len]; exact hl
    · show (nn ++ [f]).length = (vs ++ [y]).length
      simp [hl]
  · rw [h', putF_putN hl, e]
  · unfold putN
    split
    · exact t.setN hy nn
    · exact t.snoc hy
theorem Aok.ne (q : Aok K mg H as ar) {i j : Nat} {a b : Addr} (h1 : as[i]? = some a) (h2 : as[j]? = some b) (n : i ≠ j) : a ≠ b := fun e => by
  subst e
  exact n ((List.getElem?_inj (lt_of_some h1) q.nod).mp (h1.trans h2.symm))
theorem SmL.upd (q : Aok K mg H as ar) (tb : ∀ P, Tabs.T P → GxR.TabG H P) {a : Addr} (ha : a ∈ as) (u : HO) : SmL as H (L2.upd H a u) := by
  refine ⟨fun b o nb hb => .of (by rw [upd_ne (fun z : b = a => nb (by rw [z]; exact ha))]; exact hb), fun P hP => tabG_keep (tb P hP) fun o q2 ⟨ps, e⟩ => ?_⟩
  rw [upd_ne (fun z => by
    subst z
    rcases q.shape ha with ⟨xs, h⟩ | ⟨C, dx, fs, h⟩ <;> (rw [q2, e] at h; cases h))]
  exact q2
theorem Aok.upd (q : Aok K mg H as ar) (tb : ∀ P, Tabs.T P → GxR.TabG H P) {a : Addr} {k' : Nat} (hk : as[k']? = some a) {u : HO} {o' : AO} (ho : AOr K mg (L2.upd H a u) as a o') : Aok K mg (L2.upd H a u) as (ar.set k' o') := by
  have e : Ext H (L2.upd H a u) := (SmL.upd q tb (List.mem_of_getElem? hk) u).ext q
  refine ⟨by rw [List.length_set]; exact q.len, q.nod, fun j o b h1 h2 => ?_⟩
  rw [List.getElem?_set] at h1
  by_cases z : k' = j
  · subst z
    rw [if_pos rfl] at h1
    split at h1
    · cases h1
      rw [hk] at h2
      cases h2
      exact ho
    · cases h1
  · rw [if_neg z] at h1
    have n : b ≠ a := fun w => z ((List.getElem?_inj (lt_of_some hk) q.nod).mp (by rw [hk, h2, w]))
    exact (q.obj j o b h1 h2).ext e (fun _ _ g => g) (fun xs g => by rw [upd_ne n]; exact g) (fun C dx fs g => by rw [upd_ne n]; exact g)
theorem Aok.sm (q : Aok K mg H as ar) (s : Sm H H') : Aok K mg H' as ar :=
  ⟨q.len, q.nod, fun j o b h1 h2 => (q.obj j o b h1 h2).ext (Ext.of_sm s) (fun _ _ g => g) (fun xs g => s.lst g) (fun C dx fs g => (s.kp b _ g).is fun ps z => (nomatch z))⟩
theorem NsW.sm (w : NsW K mg H0 A σ H ρ r ar k as) (s : Sm H H') : NsW K mg H0 A σ H' ρ r ar k as := ⟨w.ok.sm s, w.at_, w.new, w.one, w.ptr, w.own, w.noi⟩
theorem NsW.untrack {a : Addr} {u : HO} (w : NsW K mg (L2.upd H0 a u) A σ H ρ r ar k as) : NsW K mg H0 A σ H ρ r ar k as ∧ a ∉ as :=
  ⟨⟨w.ok, w.at_, fun b hb => (upd_none (w.new b hb)).2, w.one, w.ptr, w.own, w.noi⟩, fun m => (upd_none (w.new a m)).1 rfl⟩
theorem Aok.more (q : Aok K mg H as ar) (len : as'.length = ar'.length) (nod : (as ++ as').Nodup) (h : ∀ (j : Nat) (o : AO) (b : Addr), ar'[j]? = some o → as'[j]? = some b → AOr K mg H (as ++ as') b o) : Aok K mg H (as ++ as') (ar ++ ar') := by
  refine ⟨by rw [List.length_append, List.length_append, q.len, len], nod, fun j o b h1 h2 => ?_⟩
  by_cases hj : j < ar.length
  · rw [List.getElem?_append_left hj] at h1
    rw [List.getElem?_append_left (by rw [q.len]; exact hj)] at h2
    exact (q.obj j o b h1 h2).ext (Ext.refl H) (fun l c g => by rw [List.getElem?_append_left (lt_of_some g)]; exact g) (fun _ g => g) (fun _ _ _ g => g)
  · rw [List.getElem?_append_right (by omega)] at h1
    rw [List.getElem?_append_right (by rw [q.len]; omega), q.len] at h2
    exact h _ o b h1 h2
def rootE (ρ : En) (r : Nat) (ar : List AO) (k : Nat) : En := ρ.set r (some (.nst (.root ar k)))
theorem SR.rootE (q : SR K mg H0 A σ H ρ) (hA : ∀ p ∈ A, p.1 = r) (hi : arS ρ r = some (ar, k)) (w : NsW K mg H0 A σ H ρ r ar k as) (s : SmL as H H')
    (hn : ∀ b ∈ as', b ∈ as ∨ (H0 b = Option.none ∧ ∀ (j : Nat) (ds : List D), ρ[j]? = some (some (MV.own ds)) → σ[j]? ≠ some (some (V.ref b)))) (ok : Aok K mg H' as' ar') (hp : ∀ (l : Nat) (b : Addr), as[l]? = some b → as'[l]? = some b) : SR K mg H0 A σ H' (ML.rootE ρ r ar' k) := by
  obtain ⟨b, b1, b2⟩ := w.at_
  refine q.mutA (ρ' := ML.rootE ρ r ar' k) (k' := k) hA (arS_eq hi) w s hn ok ⟨b, b1, hp k b b1⟩ (by unfold ML.rootE; rw [List.length_set]) (List.getElem?_set_self (lt_of_some (arS_eq hi))) (fun j x n g => ?_) (fun j l c g g2 => hp l c g2)
  unfold ML.rootE at g
  rw [List.getElem?_set_ne (fun z => n z.symm)] at g
  exact g
end
def psetAr (ar : List AO) (k' : Nat) (cn f : Str) (x : AV) : Option (List AO) := match ar[k']? with
  | some (.ins c nn vs) => if c = cn ∧ nn.length < 999 then some (ar.set k' (.ins cn (putN nn vs f x).1 (putN nn vs f x).2)) else none
  | _ => none
theorem psetAr_eq {ar ar' : List AO} {k' : Nat} {cn f : Str} {x : AV} (h : psetAr ar k' cn f x = some ar') : ∃ nn vs, ar[k']? = some (.ins cn nn vs) ∧ nn.length < 999 ∧ ar' = ar.set k' (.ins cn (putN nn vs f x).1 (putN nn vs f x).2) := by
  unfold psetAr at h
  split at h
  · rename_i c nn vs e
    split at h
    · rename_i hc
      obtain ⟨rfl, hz⟩ := hc
      cases h
      exact ⟨nn, vs, e, hz, rfl⟩
    · cases h
  · cases h
def psetEnd (r : Nat) (p : Pa) (cn f : Str) (d : D) (ρ : En) : Res Fl := match arS ρ r with
  | some (ar, k) => (match avOf ar ρ p with
    | some (.ptr k') => (match psetAr ar k' cn f (.dat d) with
      | some ar' => .ok (.nx (rootE ρ r ar' k))
      | none => .stuck)
    | _ => .stuck)
  | none => .stuck
def sPset (r : Nat) (p : Pa) (cn f : Str) (m : ME) : MS := sThen m (psetEnd r p cn f)
def psetLEnd (r : Nat) (p : Pa) (cn f : Str) (ds : List D) (ρ : En) : Res Fl := match arS ρ r with
  | some (ar, k) => (match avOf ar ρ p with
    | some (.ptr k') => (match psetAr (ar ++ [.lst (ds.map AV.dat)]) k' cn f (.ptr ar.length) with
      | some ar' => .ok (.nx (rootE ρ r ar' k))
      | none => .stuck)
    | _ => .stuck)
  | none => .stuck
def sPsetL (r : Nat) (p : Pa) (cn f : Str) (m : MA) : MS := sThen m (psetLEnd r p cn f)
def NoF (X : Cx) (cn f : Str) : Prop := ∀ C, X.mg cn = some (Value.ref C) → L2.NoAttr X.K C f
section
variable {X : Cx} {EW : XK} {rf : List Nat} {r : Nat} {o e : Expr} {p : Pa} {cn f : Str} {m : ME} {ms : MA} {pos pos' : Pos}
theorem ls_Pset (ho : LPt X o p) (hf : NoF X cn f) (hrf : ∀ j ∈ rf, j = r) (h : LE X EW rf e m) (hs : swapsWith e (some (.Attribute o f pos')) pos.line X.env = pure false := by rfl) : LS X EW rf (.Assign [.Attribute o f pos'] e pos) (sPset r p cn f m) := by
  refine ⟨fun H0 A hA => (ps_fld ho.run (h.run H0 A hA) hs).imp fun Dn σ H q => ?_⟩
  refine (rS.then (R := RE X) q).mono fun y H1 ⟨d, ρ, rd, sr, q⟩ => ?_
  unfold psetEnd at q
  cases es : arS ρ r with
  | none => rw [es] at q; exact q.elim
  | some z =>
    obtain ⟨ar, k⟩ := z
    rw [es] at q
    simp only at q
    cases ea : avOf ar ρ p with
    | none => rw [ea] at q; exact q.elim
    | some x =>
      cases x with
      | dat d => rw [ea] at q; exact q.elim
      | ptr k' =>
        rw [ea] at q
        simp only at q
        cases ep : psetAr ar k' cn f (.dat d) with
        | none => rw [ep] at q; exact q.elim
        | some ar' =>
          rw [ep] at q
          obtain ⟨nn, xs, e1, hz, rfl⟩ := psetAr_eq ep
          obtain ⟨as, w⟩ := sr.nst r ar k (arS_eq es)
          obtain ⟨v, h1, a, h2, rfl⟩ := walk_of sr (arS_eq es) w ea
          obtain ⟨C, dx, vs, g1, g2, g3, g4, g5, g6⟩ := w.ok.obj k' _ a e1 h2
          refine ⟨.ref a, h1, a, C, dx, nn.zip vs, rfl, g5, g2, hf C g1, by rw [List.length_zip, ← g4, Nat.min_self]; omega, ?_⟩
          have sm := SmL.upd w.ok sr.tb (List.mem_of_getElem? h2) (.ins C dx (L2.putF f y (nn.zip vs)))
          have ex := sm.ext w.ok
          have rd2 : RD X.K X.mg H1 y d := rd
          refine q σ _ (sr.rootE (rf_A hA hrf) es w sm (fun b hb => .inl hb) (w.ok.upd sr.tb h2 (AOr.put g1 g2 g3 (hf C g1) g4 upd_same (g6.ext ex fun _ _ g => g) (RD.ext ex rd2))) fun _ _ g => g) ex
theorem ls_PsetL (ho : LPt X o p) (hf : NoF X cn f) (hrf : ∀ j ∈ rf, j = r) (h : LO X EW rf e ms) (hs : swapsWith e (some (.Attribute o f pos')) pos.line X.env = pure false := by rfl) : LS X EW rf (.Assign [.Attribute o f pos'] e pos) (sPsetL r p cn f ms) := by
  refine ⟨fun H0 A hA => (ps_fld ho.run (h.run H0 A hA) hs).imp fun Dn σ H q => ?_⟩
  obtain ⟨ρ0, r0, q⟩ := q
  refine ⟨ρ0, r0, ?_⟩
  unfold sPsetL sThen at q
  cases em : ms ρ0 with
  | exn c fs => rw [em] at q; exact q
  | stuck => rw [em] at q; exact q
  | ok z0 =>
  obtain ⟨ds, ρ⟩ := z0
  rw [em] at q
  refine fun y ys H1 r1 h0 hA' rd x1 => ?_
  have sr := r1.untrack h0
  have hy := r1.frl (a := y) upd_same hA'
  simp only at q
  unfold psetLEnd at q
  cases es : arS ρ r with
  | none => rw [es] at q; exact q.elim
  | some z =>
    obtain ⟨ar, k⟩ := z
    rw [es] at q
    simp only at q
    cases ea : avOf ar ρ p with
    | none => rw [ea] at q; exact q.elim
    | some x =>
      cases x with
      | dat d => rw [ea] at q; exact q.elim
      | ptr k' =>
        rw [ea] at q
        simp only at q
        cases ep : psetAr (ar ++ [AO.lst (ds.map AV.dat)]) k' cn f (.ptr ar.length) with
        | none => rw [ep] at q; exact q.elim
        | some ar' =>
          rw [ep] at q
          obtain ⟨nn, xs, e1, hz, rfl⟩ := psetAr_eq ep
          obtain ⟨as, w1⟩ := r1.nst r ar k (arS_eq es)
          obtain ⟨w, hnew⟩ := w1.untrack
          obtain ⟨v, h1, a, h2, rfl⟩ := walk_of sr (arS_eq es) w ea
          have hk : k' < ar.length := by rw [← w.ok.len]; exact lt_of_some h2
          rw [List.getElem?_append_left hk] at e1
          obtain ⟨C, dx, vs, g1, g2, g3, g4, g5, g6⟩ := w.ok.obj k' _ a e1 h2
          refine ⟨.ref a, h1, a, C, dx, nn.zip vs, rfl, g5, g2, hf C g1, by rw [List.length_zip, ← g4, Nat.min_self]; omega, ?_⟩
          have sm := SmL.upd w.ok sr.tb (List.mem_of_getElem? h2) (.ins C dx (L2.putF f (V.ref y) (nn.zip vs)))
          have ex := sm.ext w.ok
          have pre : ∀ (l : Nat) (b : Addr), as[l]? = some b → (as ++ [y])[l]? = some b := fun l b g => by rw [List.getElem?_append_left (lt_of_some g)]; exact g
          have ok2 : Aok X.K X.mg H1 (as ++ [y]) (ar ++ [AO.lst (ds.map AV.dat)]) := w.ok.more rfl (List.nodup_append.mpr ⟨w.ok.nod, (by simp), fun c hc d hd z => hnew (by rw [← List.mem_singleton.mp hd, ← z]; exact hc)⟩) (fun j o b q1 q2 => by
            cases j with
            | zero =>
              cases q1
              cases q2
              exact ⟨ys, hy, AVs.dats rd⟩
            | succ j => simp at q1)
          have hk2 : (as ++ [y])[k']? = some a := pre k' a h2
          refine q σ _ (sr.rootE (rf_A hA hrf) es w sm (fun b hb => ?_) (ok2.upd sr.tb hk2 (AOr.put g1 g2 g3 (hf C g1) g4 upd_same (g6.ext ex pre) ⟨y, by rw [← w.ok.len, List.getElem?_append_right (Nat.le_refl _), Nat.sub_self]; rfl, rfl⟩)) pre) (x1.trans ex)
          rcases List.mem_append.mp hb with hb | hb
          · exact .inl hb
          · rw [List.mem_singleton.mp hb]; exact .inr ⟨h0, r1.unowned hA'⟩
end
end ML


namespace ML
open PySem PySem.Spec PyProof.Rows L2
variable [Tabs]
section
variable {K : PySem.W.Frag} {mg : Str → Option Value} {H0 H H' : Hp} {A : List (Nat × Addr)} {σ : L2.St} {ρ : En} {as as' : List Addr} {ar ar' : List AO} {r k : Nat}
theorem NsW.rootE (w : NsW K mg H0 A σ H ρ r ar k as) (hi : arS ρ r = some (ar, k)) (ok : Aok K mg H' as ar') : NsW K mg H0 A σ H' (ML.rootE ρ r ar' k) r ar' k as := by
  refine ⟨ok, w.at_, w.new, fun j ar2 k2 g => ?_, fun j l g => ?_, fun j ds c g => ?_, fun j c nn dd g => ?_⟩
  · rcases set_gt g with ⟨e, _⟩ | ⟨_, g⟩
    · exact e
    · exact w.one j ar2 k2 g
  · rcases set_gt g with ⟨_, e⟩ | ⟨_, g⟩
    · cases e
    · exact w.ptr j l g
  · rcases set_gt g with ⟨_, e⟩ | ⟨_, g⟩
    · cases e
    · exact w.own j ds c g
  · rcases set_gt g with ⟨_, e⟩ | ⟨_, g⟩
    · cases e
    · exact w.noi j c nn dd g
theorem SR.putPtr {i l : Nat} {b : Addr} (q : SR K mg H0 A σ H ρ) (hi : i ∉ A.map (·.1)) (hr : i ≠ r) (es : ρ[r]? = some (some (MV.nst (.root ar k)))) (w : NsW K mg H0 A σ H ρ r ar k as) (hl : as[l]? = some b) :
    SR K mg H0 A (σ.set i (some (V.ref b))) H (ρ.set i (some (.nst (.ptr l)))) := by
  have ns : ∀ (j : Nat), j ≠ i → (σ.set i (some (V.ref b)))[j]? = σ[j]? := fun j h => List.getElem?_set_ne (fun q => h q.symm)
  refine ⟨by rw [List.length_set, List.length_set]; exact q.len, fun j d' h => ?_, fun j ds' h => ?_, fun j k d1 d2 b hjk h1 h2 h3 h4 => ?_, q.fr, fun p hp => ?_, q.liv, q.tb, fun j ar2 k2 h => ?_, Iso.none fun j c2 nn2 dd2 h => ?_⟩
  · rcases set_gt h with ⟨rfl, e⟩ | ⟨n, h⟩
    · cases e
    · rw [ns j n]
      exact q.dat j d' h
  · rcases set_gt h with ⟨rfl, e⟩ | ⟨n, h⟩
    · cases e
    · rw [ns j n]
      exact q.own j ds' h
  · rcases set_gt h1 with ⟨rfl, e⟩ | ⟨n1, h1⟩
    · cases e
    · rcases set_gt h2 with ⟨rfl, e⟩ | ⟨n2, h2⟩
      · cases e
      · rw [ns j n1] at h3
        rw [ns k n2] at h4
        exact q.ap j k d1 d2 b hjk h1 h2 h3 h4
  · have hn : p.1 ≠ i := fun q => hi (q ▸ List.mem_map_of_mem hp)
    rw [ns _ hn]
    exact q.ref p hp
  · rcases set_gt h with ⟨rfl, e⟩ | ⟨n, h⟩
    · cases e
    · have := w.one j ar2 k2 h
      subst this
      rw [es] at h
      cases h
      refine ⟨as, w.ok, ?_, w.new, fun j2 ar2 k2 g => ?_, fun j2 l2 g => ?_, fun j2 ds c g gs => ?_, fun j2 c nn dd g => ?_⟩
      · obtain ⟨b2, b3, b4⟩ := w.at_
        exact ⟨b2, b3, by rw [ns j n]; exact b4⟩
      · rcases set_gt g with ⟨rfl, e⟩ | ⟨n2, g⟩
        · cases e
        · exact w.one j2 ar2 k2 g
      · rcases set_gt g with ⟨rfl, e⟩ | ⟨n2, g⟩
        · cases e
          have hlt : j2 < σ.length := by
            have := lt_of_some h
            have := (List.getElem?_eq_some_iff.mp ‹(ρ.set j2 (some (MV.nst (.ptr l))))[j2]? = _›).1
            rw [List.length_set, q.len] at this
            exact this
          exact ⟨b, hl, List.getElem?_set_self hlt⟩
        · rw [ns j2 n2]
          exact w.ptr j2 l2 g
      · rcases set_gt g with ⟨rfl, e⟩ | ⟨n2, g⟩
        · cases e
        · rw [ns j2 n2] at gs
          exact w.own j2 ds c g gs
      · rcases set_gt g with ⟨rfl, e⟩ | ⟨n2, g⟩
        · cases e
        · exact w.noi j2 c nn dd g
  · rcases set_gt h with ⟨rfl, e⟩ | ⟨n, h⟩
    · cases e
    · exact w.noi j c2 nn2 dd2 h
end
def appAr (ar : List AO) (k' : Nat) (x : AV) : Option (List AO) := match ar[k']? with
  | some (.lst xs) => if xs.length < sizeLine then some (ar.set k' (.lst (xs ++ [x]))) else none
  | _ => none
theorem appAr_eq {ar ar' : List AO} {k' : Nat} {x : AV} (h : appAr ar k' x = some ar') : ∃ xs, ar[k']? = some (.lst xs) ∧ xs.length < sizeLine ∧ ar' = ar.set k' (.lst (xs ++ [x])) := by
  unfold appAr at h
  split at h
  · rename_i xs e
    split at h
    · rename_i hz
      cases h
      exact ⟨xs, e, hz, rfl⟩
    · cases h
  · cases h
def pappEnd (r : Nat) (p : Pa) (d : D) (ρ : En) : Res Fl := match arS ρ r with
  | some (ar, k) => (match avOf ar ρ p with
    | some (.ptr k') => (match appAr ar k' (.dat d) with
      | some ar' => .ok (.nx (rootE ρ r ar' k))
      | none => .stuck)
    | _ => .stuck)
  | none => .stuck
def oneD (ds : List D) : Option D := match ds with
  | [d] => some d
  | _ => none
def sPapp (r : Nat) (p : Pa) (g : En → Res (List D)) : MS := fun ρ => match g ρ with
  | .ok ds => (match oneD ds with
    | some d => pappEnd r p d ρ
    | none => .stuck)
  | .exn c fs => (match pathL ρ r p with
    | some _ => .exn c fs
    | none => .stuck)
  | .stuck => .stuck
section
variable {X : Cx} {EW : XK} {rf : List Nat} {r : Nat} {o e : Expr} {p : Pa} {g : En → Res (List D)} {apos cpos pos : Pos}
theorem pappEnd_eq {d : D} {ρ : En} {f : Fl} (h : pappEnd r p d ρ = .ok f) : ∃ ar k k' xs, arS ρ r = some (ar, k) ∧ avOf ar ρ p = some (.ptr k') ∧ ar[k']? = some (.lst xs) ∧ xs.length < sizeLine ∧ f = .nx (rootE ρ r (ar.set k' (.lst (xs ++ [.dat d]))) k) := by
  unfold pappEnd at h
  split at h
  · rename_i ar k es
    split at h
    · rename_i k' ea
      split at h
      · rename_i ar' ep
        cases h
        obtain ⟨xs, h1, h2, rfl⟩ := appAr_eq ep
        exact ⟨ar, k, k', xs, es, ea, h1, h2, rfl⟩
      · cases h
    · cases h
  · cases h
theorem pappEnd_nx {d : D} {ρ : En} {c : Str} {fs : List (Str × D)} : pappEnd r p d ρ ≠ .exn c fs := by
  unfold pappEnd
  split
  · split
    · split <;> simp
    · simp
  · simp
theorem ls_Papp (ho : LPt X o p) (hrf : ∀ j ∈ rf, j = r) (h : LF X EW rf [e] g)
    (hbase : attributeBase o "append" X.env (eval o X.env) = eval o X.env := by rfl)
    (hfew : ((backTo cpos (starEach [e] X.env)).all (fun x => !x.1) && (backToKw cpos (keywordEach [] X.env)).all (fun x => x.1.isSome) && decide (([e] : List Expr).length + ([] : List Keyword).length + (if ([] : List Keyword).isEmpty then 0 else 1) < 30)) = true := by rfl)
    (hline : (apos.endLine == cpos.line) = true := by rfl) (hs : starEach [e] X.env = (false, eval e X.env) :: starEach [] X.env := by rfl) (hplain : (backTo cpos (starEach [] X.env)).any (·.1) = false := by rfl)
    (hsw : swapsWith (.Call (.Attribute o "append" apos) [e] [] cpos) none pos.line X.env = pure false := by rfl) :
    LS X EW rf (.Expr (.Call (.Attribute o "append" apos) [e] [] cpos) pos) (sPapp r p g) := by
  refine ⟨fun H0 A hA => (ps_expr (pe_bm PySem.F.plainAttrs_list PySem.F.slot_list_append PySem.F.type_list_append mt_append ho.run (h.run H0 A hA) hbase hfew hline hs hplain) hsw).imp fun Dn σ H q => ?_⟩
  obtain ⟨ρ, sr, q⟩ := q
  unfold sPapp at q
  cases eg : g ρ with
  | stuck => rw [eg] at q; exact q.elim
  | exn c fs =>
    rw [eg] at q
    simp only at q
    cases el : pathL ρ r p with
    | none => rw [el] at q; exact q.elim
    | some xs =>
      rw [el] at q
      obtain ⟨ar, k, as, k', a, vs, h1, w, h2, h3, h4, h5, h6, h7⟩ := pathL_at sr el
      refine ⟨.ref a, h5, .inl ⟨rfl, vs, .inl (.inl h6)⟩, ρ, sr, ?_⟩
      rw [eg]
      exact q
  | ok ds =>
    rw [eg] at q
    simp only at q
    cases e1 : oneD ds with
    | none => rw [e1] at q; exact q.elim
    | some d =>
      have ed : ds = [d] := by
        unfold oneD at e1
        split at e1
        · cases e1; rfl
        · cases e1
      subst ed
      rw [e1] at q
      simp only at q
      cases ep : pappEnd r p d ρ with
      | stuck => rw [ep] at q; exact q.elim
      | exn c fs => exact absurd ep pappEnd_nx
      | ok fl =>
        rw [ep] at q
        obtain ⟨ar, k, k', xs, es, ea, e3, hz, rfl⟩ := pappEnd_eq ep
        obtain ⟨as, w⟩ := sr.nst r ar k (arS_eq es)
        obtain ⟨v, h1, a, h2, rfl⟩ := walk_of sr (arS_eq es) w ea
        obtain ⟨vs, h3, h4⟩ := w.ok.obj k' _ a e3 h2
        refine ⟨.ref a, h1, .inl ⟨rfl, vs, .inl (.inl h3)⟩, ρ, sr, ?_⟩
        rw [eg]
        intro us H1 sm rv
        cases rv with
        | cons ry rn =>
          rename_i y us'
          cases rn
          have sr1 := sr.sm sm
          have w1 := w.sm sm
          have h3' : H1 a = some (.lst vs) := sm.lst h3
          refine ⟨a, vs, y, rfl, rfl, h3', by rw [h4.len]; exact hz, ?_⟩
          have s2 := SmL.upd w1.ok sr1.tb (List.mem_of_getElem? h2) (.lst (vs ++ [y]))
          have ex := s2.ext w1.ok
          have ex0 := Ext.of_sm sm
          exact q σ _ (sr1.rootE (rf_A hA hrf) es w1 s2 (fun b hb => .inl hb) (w1.ok.upd sr1.tb h2 ⟨vs ++ [y], upd_same, (h4.ext (ex0.trans ex) fun _ _ g => g).snoc (RD.ext ex ry)⟩) fun _ _ g => g) (ex0.trans ex)
end
def sAli (i r : Nat) (p : Pa) : MS := fun ρ => match pathV ρ r p with
  | some (.ptr l) => if i = r then .stuck else .ok (.nx (ρ.set i (some (.nst (.ptr l)))))
  | _ => .stuck
def popEnd (i r : Nat) (p : Pa) (ρ : En) : Option En := match arS ρ r with
  | some (ar, k) => (match avOf ar ρ p with
    | some (.ptr k') => (match ar[k']? with
      | some (.lst xs) => (match xs.getLast? with
        | some (.ptr l) => if i = r then none else some ((rootE ρ r (ar.set k' (.lst xs.dropLast)) k).set i (some (.nst (.ptr l))))
        | _ => none)
      | _ => none)
    | _ => none)
  | none => none
def sPopP (i r : Nat) (p : Pa) : MS := fun ρ => match popEnd i r p ρ with
  | some ρ1 => .ok (.nx ρ1)
  | none => .stuck
section
variable {X : Cx} {EW : XK} {rf : List Nat} {i r : Nat} {o e : Expr} {p : Pa} {x : Str} {apos cpos pos pos' : Pos}
theorem ls_Ali (ho : LPt X e p) (hN : X.N.Nodup) (hi : X.N[i]? = some x) (hx : Loc X.env.scope x) (hr : i ∉ rf) (hs : swapsWith e (some (.Name x pos')) pos.line X.env = pure false := by rfl)
    (hf : X.fn x = true ∨ X.env.scope.names.lookup x = some .local := by first | exact .inl rfl | exact .inr rfl | assumption) : LS X EW rf (.Assign [.Name x pos'] e pos) (sAli i r p) := by
  refine ⟨fun H0 A hA => (ps_set hN hi hx ho.run hs hf).imp fun Dn σ H ⟨ρ, sr, q⟩ => ?_⟩
  unfold sAli at q
  cases ev : pathV ρ r p with
  | none => rw [ev] at q; exact q.elim
  | some z =>
    cases z with
    | dat d => rw [ev] at q; exact q.elim
    | ptr l =>
      rw [ev] at q
      simp only at q
      by_cases hir : i = r
      · rw [if_pos hir] at q; exact q.elim
      · rw [if_neg hir] at q
        obtain ⟨ar, k, as, v, h1, w, h2, h3, b, h4, rfl⟩ := pathV_at sr ev
        exact ⟨.ref b, h3, q _ H (sr.putPtr (by rw [hA]; exact hr) hir (arS_eq h1) w h4) (Ext.refl H)⟩
theorem ls_PopP (ho : LPt X o p) (hrf : ∀ j ∈ rf, j = r) (hN : X.N.Nodup) (hi : X.N[i]? = some x) (hx : Loc X.env.scope x) (hr : i ∉ rf)
    (hbase : attributeBase o "pop" X.env (eval o X.env) = eval o X.env := by rfl) (hline : (apos.endLine == cpos.line) = true := by rfl)
    (hs : swapsWith (.Call (.Attribute o "pop" apos) [] [] cpos) (some (.Name x pos')) pos.line X.env = pure false := by rfl)
    (hf : X.fn x = true ∨ X.env.scope.names.lookup x = some .local := by first | exact .inl rfl | exact .inr rfl | assumption) : LS X EW rf (.Assign [.Name x pos'] (.Call (.Attribute o "pop" apos) [] [] cpos) pos) (sPopP i r p) := by
  refine ⟨fun H0 A hA => (ps_set hN hi hx (pe_bm0 PySem.F.plainAttrs_list PySem.F.slot_list_pop PySem.F.type_list_pop mt_pop ho.run hbase hline) hs hf).imp fun Dn σ H ⟨ρ, sr, q⟩ => ?_⟩
  unfold sPopP at q
  cases ep : popEnd i r p ρ with
  | none => rw [ep] at q; exact q.elim
  | some ρ1 =>
    rw [ep] at q
    unfold popEnd at ep
    split at ep
    · rename_i ar k es
      split at ep
      · rename_i k' ea
        split at ep
        · rename_i xs e3
          split at ep
          · rename_i l eg
            split at ep
            · cases ep
            · rename_i hir
              cases ep
              obtain ⟨as, w⟩ := sr.nst r ar k (arS_eq es)
              obtain ⟨v, h1, a, h2, rfl⟩ := walk_of sr (arS_eq es) w ea
              obtain ⟨vs, h3, h4⟩ := w.ok.obj k' _ a e3 h2
              have hl : xs[xs.length - 1]? = some (.ptr l) := by rw [← List.getLast?_eq_getElem?]; exact eg
              have hlt : xs.length - 1 < vs.length := by rw [h4.len]; exact lt_of_some hl
              obtain ⟨b, hb, hv⟩ : AVr X.K X.mg H as vs[xs.length - 1] (.ptr l) := h4.at_ _ _ _ (List.getElem?_eq_getElem hlt) hl
              refine ⟨.ref a, h1, .inl ⟨rfl, vs, .inl (.inl h3)⟩, a, vs, .ref b, rfl, rfl, h3, by rw [h4.len, List.getElem?_eq_getElem hlt, hv], ?_⟩
              have s2 := SmL.upd w.ok sr.tb (List.mem_of_getElem? h2) (.lst vs.dropLast)
              have ex := s2.ext w.ok
              have ok2 := w.ok.upd sr.tb h2 (o' := .lst xs.dropLast) ⟨vs.dropLast, upd_same, (h4.ext ex fun _ _ g => g).take⟩
              have sr2 := sr.rootE (rf_A hA hrf) es w s2 (fun b hb => .inl hb) ok2 fun _ _ g => g
              exact q _ _ (sr2.putPtr (by rw [hA]; exact hr) hir (List.getElem?_set_self (lt_of_some (arS_eq es))) (w.rootE es ok2) hb) ex
          · cases ep
        · cases ep
      · cases ep
    · cases ep
end
end ML


namespace ML
open PySem PySem.Spec PyProof.Rows L2
variable [Tabs]
structure ClsA (P : Program) (w : World) (K : PySem.W.Frag) (mg : Str → Option Value) (base : Heap) (cn : Str) (j : Nat) (F : List AO → Nat → List D → Res (D × List AO)) : Prop where
  ex : ∃ (C f : Addr) (fd : FuncData) (ps : List Str), mg cn = some (Value.ref C) ∧ L2.Cls K C ∧ L2.Mk K C f ∧ Binds K fd ps [] ∧ FnG P w K mg base j f fd ps (spA K mg F)
theorem ClsA.mono {P : Program} {w : World} {K : PySem.W.Frag} {mg : Str → Option Value} {base : Heap} {cn : Str} {i j : Nat} {F : List AO → Nat → List D → Res (D × List AO)} (h : ClsA P w K mg base cn i F) (hij : i ≤ j) : ClsA P w K mg base cn j F := by
  obtain ⟨C, f, fd, ps, h1, h2, h3, h4, h5⟩ := h.ex
  exact ⟨C, f, fd, ps, h1, h2, h3, h4, h5.mono hij⟩
section
variable {X : Cx} {k j : Nat} {f C : Addr} {fd : FuncData} {ps : List Str} {sp : Sp} {E : XK} {x : Str} {p pos : Pos} {e : Expr} {es : List Expr} {t : TA}
theorem run_makeG {pins : List (Addr × Obj)} {σ : L2.St} {H : Hp} {s : Shared} {Q : VK} {us : List Value} {vs : List V} (M : L2.Mk X.K C f) (F : FnG X.prog X.w X.K X.mg X.base j f fd ps sp) (c : Cok X E k) (hj : j + 1 ≤ k) (hb : Binds X.K fd ps [])
    (I : L2.Inv X pins σ H s) (r : Vals vs us)
    (h : ∀ x dx, H x = none → H dx = none → dx ≠ x → sp (.ref x :: vs) (upd (upd H dx (.own x)) x (.ins C dx [])) (fun v H2 => v = .non ∧ Q (.ref x) H2) E) :
    wpAny (model X.prog X.w) X.A (call (.ref C) us) (EP X pins σ Q) X.xe s := by
  have hq := h (s.heap.objs.size + 1) s.heap.objs.size (I.hok.fresh (Nat.le_succ _)) (I.hok.fresh (Nat.le_refl _)) (Nat.ne_of_lt (Nat.lt_succ_self _))
  have I2 := L2.Inv.made (C := C) I
  have r2 : Vals (V.ref (s.heap.objs.size + 1) :: vs) (Value.ref (s.heap.objs.size + 1) :: us) := .cons rfl r
  have hl : (Value.ref (s.heap.objs.size + 1) :: us ++ []).length = ps.length := by
    have e := r2.length
    rw [F.len _ _ _ _ hq] at e
    rw [List.append_nil]
    exact e.symm
  have hb2 := hb _ (Value.ref (s.heap.objs.size + 1) :: us) I2.kIn hl
  rw [List.append_nil] at hb2
  refine wpAny_call (L2.make_map (f := f) I.kIn M.makes M.init (beq_iff_eq.mp M.fn) (codeAny_mono (F.run _ X.stack _ _ ⟨Value.ref (s.heap.objs.size + 1) :: us, []⟩ (Value.ref (s.heap.objs.size + 1) :: us) _ _ E ((c.hr.mono hj).make C us []) c.hg
    (I2.env0.make C us []) hb2 r2 hq) fun r s' hq' => ?_))
  cases r with
  | error e => exact c.hp pins σ _ _ e s' I2 hq'
  | ok fl =>
    cases fl with
    | ret u =>
      obtain ⟨v, H', I3, rv, ev, q3⟩ := I2.after hq'
      subst ev
      exact ⟨rv, ⟨V.ref (s.heap.objs.size + 1), H', I3, rfl, q3⟩⟩
    | next => exact False.elim hq'
    | brk => exact False.elim hq'
    | cont => exact False.elim hq'
def tMakeG (C : Addr) (sp : Sp) (E : XK) (t : TA) : TE := fun σ H Q => t σ H fun vs H1 => ∀ x dx, H1 x = none → H1 dx = none → dx ≠ x →
  sp (.ref x :: vs) (upd (upd H1 dx (.own x)) x (.ins C dx [])) (fun v H2 => v = .non ∧ Q (.ref x) H2) E
theorem pe_makeG (M : L2.Mk X.K C f) (F : FnG X.prog X.w X.K X.mg X.base j f fd ps sp) (c : Cok X E k) (hj : j + 1 ≤ k) (hg : Gl X x) (hm : X.mg x = some (.ref C)) (hb : Binds X.K fd ps [])
    (ha : PA X (e :: es) t) (hdb : (x == ("__debug__" : Str)) = false := by decide) (he : starEach (e :: es) X.env = (false, eval e X.env) :: starEach es X.env := by rfl) (hpl : (backTo pos (starEach es X.env)).any (·.1) = false := by rfl) :
    PE X (.Call (.Name x p) (e :: es) [] pos) (tMakeG C sp E t) := by
  refine ⟨fun pins s σ H Q I h => ?_⟩
  refine wpAny_Call_Name_kw (ld_glob I hg hm ?_ hdb)
  refine PySem.W.callWith_K (h₀ := X.base) I.ok.mod.kin M.kp (thn (ha.run pos pins s σ H _ I h) fun us s1 ⟨vs, H1, I1, r, q⟩ => ⟨I1.kIn, ?_⟩) he hpl
  exact run_makeG M F c hj hb I1 r q
theorem pe_makeG0 (M : L2.Mk X.K C f) (F : FnG X.prog X.w X.K X.mg X.base j f fd ps sp) (c : Cok X E k) (hj : j + 1 ≤ k) (hg : Gl X x) (hm : X.mg x = some (.ref C)) (hb : Binds X.K fd ps [])
    (hdb : (x == ("__debug__" : Str)) = false := by decide) : PE X (.Call (.Name x p) [] [] pos) (tMakeG C sp E tNil) := by
  refine ⟨fun pins s σ H Q I h => ?_⟩
  refine wpAny_Call_Name_kw (ld_glob I hg hm ?_ hdb)
  exact PySem.W.callWith_K0 I.kIn M.kp (run_makeG (us := []) M F c hj hb I .nil h)
end
def initA (F : List AO → Nat → List D → Res (D × List AO)) (cn : Str) (ds : List D) : Option (List AO) := match F [.ins cn [] []] 0 ds with
  | .ok (.non, sub) => some sub
  | _ => none
section
variable {K : PySem.W.Frag} {mg : Str → Option Value} {H0 H H1 : Hp} {A : List (Nat × Addr)} {σ : L2.St} {ρ : En} {F : List AO → Nat → List D → Res (D × List AO)} {cn : Str} {ds : List D} {sub : List AO} {C : Addr} {E : XK}
theorem initA_sp {vs : List V} {x dx : Addr} {Q : Hp → Prop} (hi : initA F cn ds = some sub) (hm : mg cn = some (Value.ref C)) (cl : L2.Cls K C) (tb : ∀ P, Tabs.T P → GxR.TabG H1 P) (rv : RDs K mg H1 vs ds) (hx : H1 x = none) (hdx : H1 dx = none) (ne : dx ≠ x)
    (q : ∀ H' as', Sm H1 H' → (∀ c ∈ as', H1 c = none) → Aok K mg H' as' sub → as'[0]? = some x → Q H') :
    spA K mg F (.ref x :: vs) (upd (upd H1 dx (.own x)) x (.ins C dx [])) (fun v H2 => v = .non ∧ Q H2) E := by
  have s0 : Same H1 (upd (upd H1 dx (.own x)) x (.ins C dx [])) := fun b u z => by
    rw [upd_ne (ne_of_none z hx), upd_ne (ne_of_none z hdx)]; exact z
  refine ⟨[x], [.ins cn [] []], 0, x, vs, ds, rfl, rfl, ⟨rfl, by simp, fun j o b h1 h2 => ?_⟩, RDs.ext (Ext.of_same s0) rv, fun P hP => tabG_keep (tb P hP) fun o q _ => s0 P o q, ?_⟩
  · cases j with
    | zero =>
      cases h1
      cases h2
      exact ⟨C, dx, [], hm, cl, (fun f hf => by cases hf), rfl, upd_same, AVs.nil⟩
    | succ j => simp at h1
  · unfold initA at hi
    cases ef : F [.ins cn [] []] 0 ds with
    | stuck => rw [ef] at hi; cases hi
    | exn c fs => rw [ef] at hi; cases hi
    | ok z =>
      obtain ⟨d, sub'⟩ := z
      rw [ef] at hi
      cases d with
      | non =>
        cases hi
        intro v H' as' sm hn ok hk rd
        have ev : v = .non := by cases rd; rfl
        refine ⟨ev, q H' as' ⟨fun b o hb => ?_, sm.tb⟩ (fun c hc => ?_) ok hk⟩
        · have nb : b ∉ [x] := by
            intro m
            rw [List.mem_singleton.mp m, hx] at hb
            cases hb
          exact sm.kp b o nb (s0 b o hb)
        · rcases hn c hc with m | m
          · rw [List.mem_singleton.mp m]; exact hx
          · cases e : H1 c with
            | none => rfl
            | some o => rw [s0 c o e] at m; cases m
      | _ => cases hi
theorem SR.putRoot {i k : Nat} {b : Addr} {as : List Addr} {ar : List AO} (q : SR K mg H0 A σ H ρ) (hi : i ∉ A.map (·.1)) (hn : noIns i ρ = true) (ok : Aok K mg H as ar) (hk : as[k]? = some b) (new : ∀ c ∈ as, H0 c = Option.none ∧ ∀ (j : Nat) (ds : List D), ρ[j]? = some (some (MV.own ds)) → σ[j]? ≠ some (some (V.ref c))) :
    SR K mg H0 A (σ.set i (some (V.ref b))) H (ρ.set i (some (.nst (.root ar k)))) := by
  have ns : ∀ (j : Nat), j ≠ i → (σ.set i (some (V.ref b)))[j]? = σ[j]? := fun j h => List.getElem?_set_ne (fun q => h q.symm)
  have nst : ∀ (j : Nat) (y : NX), (ρ.set i (some (.nst (.root ar k))))[j]? = some (some (MV.nst y)) → j = i ∧ y = .root ar k := fun j y g => by
    rcases set_gt g with ⟨rfl, e⟩ | ⟨n, g⟩
    · cases e; exact ⟨rfl, rfl⟩
    · exact absurd g (noIns_nst hn j y n)
  have ins : ∀ (j : Nat) (c : Str) (nn : List Str) (dd : List D), (ρ.set i (some (.nst (.root ar k))))[j]? ≠ some (some (MV.ins c nn dd)) := fun j c nn dd g => by
    rcases set_gt g with ⟨rfl, e⟩ | ⟨n, g⟩
    · cases e
    · exact noIns_at hn j c nn dd n g
  refine ⟨by rw [List.length_set, List.length_set]; exact q.len, fun j d' h => ?_, fun j ds' h => ?_, fun j k d1 d2 b hjk h1 h2 h3 h4 => ?_, q.fr, fun p hp => ?_, q.liv, q.tb, fun j ar2 k2 h => ?_, Iso.none ins⟩
  · rcases set_gt h with ⟨rfl, e⟩ | ⟨n, h⟩
    · cases e
    · rw [ns j n]
      exact q.dat j d' h
  · rcases set_gt h with ⟨rfl, e⟩ | ⟨n, h⟩
    · cases e
    · rw [ns j n]
      exact q.own j ds' h
  · rcases set_gt h1 with ⟨rfl, e⟩ | ⟨n1, h1⟩
    · cases e
    · rcases set_gt h2 with ⟨rfl, e⟩ | ⟨n2, h2⟩
      · cases e
      · rw [ns j n1] at h3
        rw [ns k n2] at h4
        exact q.ap j k d1 d2 b hjk h1 h2 h3 h4
  · have hn : p.1 ≠ i := fun q => hi (q ▸ List.mem_map_of_mem hp)
    rw [ns _ hn]
    exact q.ref p hp
  · have hlt : i < σ.length := by
      obtain ⟨rfl, _⟩ := nst j _ h
      have := lt_of_some h
      rw [List.length_set, q.len] at this
      exact this
    obtain ⟨rfl, e⟩ := nst j _ h
    cases e
    refine ⟨as, ok, ⟨b, hk, List.getElem?_set_self hlt⟩, fun c hc => (new c hc).1, fun j2 ar2 k2 g => (nst j2 _ g).1, (fun j2 l g => by cases (nst j2 _ g).2), fun j2 ds c g gs hc => ?_, ins⟩
    rcases set_gt g with ⟨rfl, e⟩ | ⟨n, g⟩
    · cases e
    · rw [ns j2 n] at gs
      exact (new c hc).2 j2 ds g gs
end
def sMakeR (i : Nat) (cn : Str) (F : List AO → Nat → List D → Res (D × List AO)) : MS := fun ρ => match initA F cn [] with
  | some sub => if noIns i ρ = true then .ok (.nx (ρ.set i (some (.nst (.root sub 0))))) else .stuck
  | none => .stuck
def AV.shift (n : Nat) : AV → AV
  | .dat d => .dat d
  | .ptr k => .ptr (n + k)
def AO.shift (n : Nat) : AO → AO
  | .lst xs => .lst (xs.map (AV.shift n))
  | .ins c nn vs => .ins c nn (vs.map (AV.shift n))
def moreA (ar sub : List AO) : List AO := ar ++ sub.map (AO.shift ar.length)
theorem AVs.shift {K : PySem.W.Frag} {mg : Str → Option Value} {H : Hp} {as as' : List Addr} {n : Nat} (hn : as.length = n) {vs : List V} {xs : List AV} (h : AVs K mg H as' vs xs) : AVs K mg H (as ++ as') vs (xs.map (AV.shift n)) := by
  refine ⟨by rw [List.length_map]; exact h.len, fun j v x h1 h2 => ?_⟩
  rw [List.getElem?_map] at h2
  cases e : xs[j]? with
  | none => rw [e] at h2; cases h2
  | some y =>
    rw [e] at h2
    cases h2
    have := h.at_ j v y h1 e
    cases y with
    | dat d => exact this
    | ptr k =>
      obtain ⟨b, h3, h4⟩ := this
      exact ⟨b, by subst hn; rw [List.getElem?_append_right (Nat.le_add_right _ _), Nat.add_sub_cancel_left]; exact h3, h4⟩
theorem AOr.shift {K : PySem.W.Frag} {mg : Str → Option Value} {H : Hp} {as as' : List Addr} {n : Nat} (hn : as.length = n) {b : Addr} {o : AO} (h : AOr K mg H as' b o) : AOr K mg H (as ++ as') b (o.shift n) := by
  cases o with
  | lst xs =>
    obtain ⟨vs, h1, h2⟩ := h
    exact ⟨vs, h1, h2.shift hn⟩
  | ins c nn xs =>
    obtain ⟨C, dx, vs, h1, h2, h3, h4, h5, h6⟩ := h
    exact ⟨C, dx, vs, h1, h2, h3, h4, h5, h6.shift hn⟩
def sPappN (r : Nat) (p : Pa) (cn : Str) (F : List AO → Nat → List D → Res (D × List AO)) (g : En → Res (List D)) : MS := fun ρ => match arS ρ r with
  | some (ar, k) => (match avOf ar ρ p with
    | some (.ptr k') => (match ar[k']? with
      | some (.lst xs) => (match g ρ with
        | .ok ds => (match initA F cn ds with
          | some sub => if xs.length < sizeLine then .ok (.nx (rootE ρ r ((moreA ar sub).set k' (.lst (xs ++ [.ptr ar.length]))) k)) else .stuck
          | none => .stuck)
        | .exn c fs => .exn c fs
        | .stuck => .stuck)
      | _ => .stuck)
    | _ => .stuck)
  | none => .stuck
section
variable {X : Cx} {EW : XK} {rf : List Nat} {k j i r : Nat} {o e : Expr} {es : List Expr} {p : Pa} {x cn : Str} {F : List AO → Nat → List D → Res (D × List AO)} {g : En → Res (List D)} {pc px apos cpos mpos pos pos' : Pos}
theorem ls_MakeR (Ci : ClsA X.prog X.w X.K X.mg X.base cn j F) (c : Cok X EW k) (hj : j + 1 ≤ k) (hg : Gl X cn) (hN : X.N.Nodup) (hi : X.N[i]? = some x) (hx : Loc X.env.scope x) (hr : i ∉ rf)
    (hdb : (cn == ("__debug__" : Str)) = false := by decide) (hs : swapsWith (.Call (.Name cn pc) [] [] cpos) (some (.Name x pos')) pos.line X.env = pure false := by rfl)
    (hf : X.fn x = true ∨ X.env.scope.names.lookup x = some .local := by first | exact .inl rfl | exact .inr rfl | assumption) :
    LS X EW rf (.Assign [.Name x pos'] (.Call (.Name cn pc) [] [] cpos) pos) (sMakeR i cn F) := by
  obtain ⟨C, f, fd, ps, hm, hC, hM, hb, FG⟩ := Ci.ex
  refine ⟨fun H0 A hA => (ps_set hN hi hx (pe_makeG0 hM FG c hj hg hm hb hdb) hs hf).imp fun Dn σ H ⟨ρ, sr, q⟩ => ?_⟩
  unfold sMakeR at q
  cases ei : initA F cn [] with
  | none => rw [ei] at q; exact q.elim
  | some sub =>
    rw [ei] at q
    simp only at q
    by_cases hno : noIns i ρ = true
    · rw [if_pos hno] at q
      intro a dx ha hdx ne
      refine initA_sp ei hm hC sr.tb .nil ha hdx ne fun H' as' sm hn ok hk => ?_
      exact q _ H' ((sr.sm sm).putRoot (by rw [hA]; exact hr) hno ok hk fun c hc => sr.newA (hn c hc)) (Ext.of_sm sm)
    · rw [if_neg hno] at q; exact q.elim
theorem ls_PappN (Ci : ClsA X.prog X.w X.K X.mg X.base cn j F) (c : Cok X EW k) (hj : j + 1 ≤ k) (hg : Gl X cn) (ho : LPt X o p) (hrf : ∀ j ∈ rf, j = r) (h : LF X EW rf (e :: es) g)
    (hdb : (cn == ("__debug__" : Str)) = false := by decide) (he : starEach (e :: es) X.env = (false, eval e X.env) :: starEach es X.env := by rfl) (hpl : (backTo mpos (starEach es X.env)).any (·.1) = false := by rfl)
    (hbase : attributeBase o "append" X.env (eval o X.env) = eval o X.env := by rfl)
    (hfew : ((backTo cpos (starEach [.Call (.Name cn pc) (e :: es) [] mpos] X.env)).all (fun x => !x.1) && (backToKw cpos (keywordEach [] X.env)).all (fun x => x.1.isSome) && decide (([Expr.Call (.Name cn pc) (e :: es) [] mpos] : List Expr).length + ([] : List Keyword).length + (if ([] : List Keyword).isEmpty then 0 else 1) < 30)) = true := by rfl)
    (hline : (apos.endLine == cpos.line) = true := by rfl) (hs : starEach [.Call (.Name cn pc) (e :: es) [] mpos] X.env = (false, eval (.Call (.Name cn pc) (e :: es) [] mpos) X.env) :: starEach [] X.env := by rfl) (hplain : (backTo cpos (starEach [] X.env)).any (·.1) = false := by rfl)
    (hsw : swapsWith (.Call (.Attribute o "append" apos) [.Call (.Name cn pc) (e :: es) [] mpos] [] cpos) none pos.line X.env = pure false := by rfl) :
    LS X EW rf (.Expr (.Call (.Attribute o "append" apos) [.Call (.Name cn pc) (e :: es) [] mpos] [] cpos) pos) (sPappN r p cn F g) := by
  obtain ⟨C, f, fd, ps, hm, hC, hM, hb, FG⟩ := Ci.ex
  refine ⟨fun H0 A hA => (ps_expr (pe_bm PySem.F.plainAttrs_list PySem.F.slot_list_append PySem.F.type_list_append mt_append ho.run (pa_cons (pe_makeG hM FG c hj hg hm hb (h.run H0 A hA) hdb he hpl) pa_nil hs) hbase hfew hline hs hplain) hsw).imp fun Dn σ H q => ?_⟩
  obtain ⟨ρ, sr, q⟩ := q
  unfold sPappN at q
  cases es : arS ρ r with
  | none => rw [es] at q; exact q.elim
  | some z =>
  obtain ⟨ar, kk⟩ := z
  rw [es] at q
  simp only at q
  cases ea : avOf ar ρ p with
  | none => rw [ea] at q; exact q.elim
  | some y =>
  cases y with
  | dat d => rw [ea] at q; exact q.elim
  | ptr k' =>
  rw [ea] at q
  simp only at q
  cases e3 : ar[k']? with
  | none => rw [e3] at q; exact q.elim
  | some ob =>
  cases ob with
  | ins c2 nn2 vs2 => rw [e3] at q; exact q.elim
  | lst xs =>
  rw [e3] at q
  simp only at q
  obtain ⟨as, w⟩ := sr.nst r ar kk (arS_eq es)
  obtain ⟨v, h1, a, h2, rfl⟩ := walk_of sr (arS_eq es) w ea
  obtain ⟨vs, h3, h4⟩ := w.ok.obj k' _ a e3 h2
  refine ⟨.ref a, h1, .inl ⟨rfl, vs, .inl (.inl h3)⟩, ρ, sr, ?_⟩
  cases eg : g ρ with
  | stuck => rw [eg] at q; exact q.elim
  | exn c fs => rw [eg] at q; exact q
  | ok ds =>
  rw [eg] at q
  simp only at q
  cases ei : initA F cn ds with
  | none => rw [ei] at q; exact q.elim
  | some sub =>
  rw [ei] at q
  simp only at q
  by_cases hz : xs.length < sizeLine
  · rw [if_pos hz] at q
    intro us H1 sm rv x' dx hx hdx ne
    have sr1 := sr.sm sm
    refine initA_sp ei hm hC sr1.tb rv hx hdx ne fun H2 as' sm2 hn ok2 hk2 => ?_
    have sr2 := sr1.sm sm2
    have w2 := (w.sm sm).sm sm2
    have h3' : H2 a = some (.lst vs) := sm2.lst (sm.lst h3)
    have l0 : as.length = ar.length := w.ok.len
    refine ⟨a, vs, .ref x', rfl, rfl, h3', by rw [h4.len]; exact hz, ?_⟩
    have pre : ∀ (l : Nat) (b : Addr), as[l]? = some b → (as ++ as')[l]? = some b := fun l b g => by rw [List.getElem?_append_left (lt_of_some g)]; exact g
    have okm : Aok X.K X.mg H2 (as ++ as') (moreA ar sub) := w2.ok.more (by rw [List.length_map]; exact ok2.len) (List.nodup_append.mpr ⟨w.ok.nod, ok2.nod, fun c hc d hd z => by
      subst z
      rcases (w.sm sm).ok.shape hc with ⟨xs, g⟩ | ⟨C, dx, fs, g⟩ <;> (rw [hn c hd] at g; cases g)⟩) (fun j o b q1 q2 => by
        rw [List.getElem?_map] at q1
        cases eo : sub[j]? with
        | none => rw [eo] at q1; cases q1
        | some o' =>
          rw [eo] at q1
          cases q1
          exact (ok2.obj j o' b eo q2).shift l0)
    have s2 := SmL.upd w2.ok sr2.tb (List.mem_of_getElem? h2) (.lst (vs ++ [V.ref x']))
    have ex := s2.ext w2.ok
    have ex0 := (Ext.of_sm sm).trans (Ext.of_sm sm2)
    refine q σ _ (sr2.rootE (rf_A hA hrf) es w2 s2 (fun b hb => ?_) (okm.upd sr2.tb (pre _ _ h2) ⟨vs ++ [V.ref x'], upd_same, (h4.ext (ex0.trans ex) pre).snoc ⟨x', by rw [← l0, List.getElem?_append_right (Nat.le_refl _), Nat.sub_self]; exact hk2, rfl⟩⟩) pre) (ex0.trans ex)
    rcases List.mem_append.mp hb with hb | hb
    · exact .inl hb
    · exact .inr (sr1.newA (hn b hb))
  · rw [if_neg hz] at q; exact q.elim
end
end ML


namespace ML
open PySem PySem.Spec PyProof.Rows L2
variable [Tabs]
def subV (l : Nat) : AV → Option AV
  | .dat d => some (.dat d)
  | .ptr j => if j = l then some (.ptr 1) else none
def backV (l : Nat) : AV → Option AV
  | .dat d => some (.dat d)
  | .ptr j => if j = 1 then some (.ptr l) else none
def mapV (f : AV → Option AV) : List AV → Option (List AV)
  | [] => some []
  | x :: r => match f x, mapV f r with
    | some y, some s => some (y :: s)
    | _, _ => none
def firstP : List AV → Option Nat
  | [] => none
  | .ptr l :: _ => some l
  | .dat _ :: r => firstP r
def noV (l : Nat) : AV → Bool
  | .ptr j => j != l
  | .dat _ => true
def noO (l : Nat) : AO → Bool
  | .lst xs => xs.all (noV l)
  | .ins _ _ vs => vs.all (noV l)
def subA (ar : List AO) (k' : Nat) (cn m : Str) : Option (Nat × List AO) := match ar[k']? with
  | some (.ins c nn vs) => (match firstP vs with
    | some l => (match ar[l]? with
      | some (.lst xs) => (match datsA xs, mapV (subV l) vs with
        | some _, some vs1 => if c = cn ∧ m ∉ nn ∧ l ≠ k' ∧ (ar.set k' (.lst [])).all (noO l) = true then some (l, [.ins cn nn vs1, .lst xs]) else none
        | _, _ => none)
      | _ => none)
    | none => none)
  | _ => none
def backA (ar : List AO) (k' l : Nat) (sub : List AO) : Option (List AO) := match sub with
  | [.ins c nn vs, .lst ys] => (match mapV (backV l) vs, datsA ys with
    | some vs1, some _ => some ((ar.set k' (.ins c nn vs1)).set l (.lst ys))
    | _, _ => none)
  | _ => none
def eMethS (F : List AO → Nat → List D → Res (D × List AO)) (r : Nat) (p : Pa) (cn m : Str) (g : En → Res (List D)) : ME := fun ρ => match arS ρ r with
  | some (ar, k) => (match avOf ar ρ p with
    | some (.ptr k') => (match subA ar k' cn m with
      | some (l, sub) => if l = k then .stuck else (match g ρ with
        | .ok ds => (match F sub 0 ds with
          | .ok (d, sub') => (match backA ar k' l sub' with
            | some ar' => .ok (d, setA ρ r ar' k)
            | none => .stuck)
          | .exn c fs => .exn c fs
          | .stuck => .stuck)
        | .exn c fs => .exn c fs
        | .stuck => .stuck)
      | none => .stuck)
    | _ => .stuck)
  | none => .stuck
theorem subA_eq {ar sub : List AO} {k' l : Nat} {cn m : Str} (h : subA ar k' cn m = some (l, sub)) : ∃ nn vs xs ds vs1, ar[k']? = some (.ins cn nn vs) ∧ ar[l]? = some (.lst xs) ∧ datsA xs = some ds ∧ mapV (subV l) vs = some vs1 ∧ m ∉ nn ∧ l ≠ k' ∧ (ar.set k' (.lst [])).all (noO l) = true ∧ sub = [.ins cn nn vs1, .lst xs] := by
  unfold subA at h
  split at h
  · rename_i c nn vs e1
    split at h
    · rename_i l' e2
      split at h
      · rename_i xs e3
        split at h
        · rename_i ds vs1 e4 e5
          split at h
          · rename_i hc
            obtain ⟨rfl, h1, h2, h3⟩ := hc
            cases h
            exact ⟨nn, vs, xs, ds, vs1, e1, e3, e4, e5, h1, h2, h3, rfl⟩
          · cases h
        · cases h
      · cases h
    · cases h
  · cases h
theorem backA_eq {ar sub ar' : List AO} {k' l : Nat} (h : backA ar k' l sub = some ar') : ∃ c nn vs ys ds vs1, sub = [.ins c nn vs, .lst ys] ∧ mapV (backV l) vs = some vs1 ∧ datsA ys = some ds ∧ ar' = (ar.set k' (.ins c nn vs1)).set l (.lst ys) := by
  unfold backA at h
  split at h
  · rename_i c nn vs ys
    split at h
    · rename_i vs1 ds e1 e2
      cases h
      exact ⟨c, nn, vs, ys, ds, vs1, rfl, e1, e2, rfl⟩
    · cases h
  · cases h
section
variable {K : PySem.W.Frag} {mg : Str → Option Value} {H H' : Hp} {as as' : List Addr}
theorem AVs.mapV {f : AV → Option AV} (hf : ∀ (v : V) (x y : AV), f x = some y → AVr K mg H as v x → AVr K mg H as' v y) : ∀ {vs : List V} {xs ys : List AV}, ML.mapV f xs = some ys → AVs K mg H as vs xs → AVs K mg H as' vs ys
  | [], [], ys, e, t => by cases e; exact .nil
  | [], _ :: _, ys, e, t => by have := t.len; simp at this
  | _ :: _, [], ys, e, t => by have := t.len; simp at this
  | v :: vs, x :: xs, ys, e, t => by
    unfold ML.mapV at e
    split at e
    · rename_i y s e1 e2
      cases e
      exact .cons (hf v x y e1 t.tail.1) (AVs.mapV hf e2 t.tail.2)
    · cases e
theorem AVs.ofDats : ∀ {vs : List V} {xs : List AV} {ds : List D}, datsA xs = some ds → AVs K mg H as vs xs → AVs K mg H as' vs xs
  | [], [], ds, e, t => .nil
  | [], _ :: _, ds, e, t => by have := t.len; simp at this
  | _ :: _, [], ds, e, t => by have := t.len; simp at this
  | v :: vs, .dat d :: xs, ds, e, t => by
    unfold datsA at e
    split at e
    · rename_i ds' e1
      exact .cons t.tail.1 (AVs.ofDats e1 t.tail.2)
    · cases e
  | v :: vs, .ptr _ :: xs, ds, e, t => by cases e
theorem AVs.noV {l : Nat} {c : Addr} (ex : Ext H H') {vs : List V} {xs : List AV} (h : xs.all (noV l) = true) (t : AVs K mg H as vs xs) : AVs K mg H' (as.set l c) vs xs := by
  refine ⟨t.len, fun j v x h1 h2 => ?_⟩
  have hx := List.all_eq_true.mp h x (List.mem_of_getElem? h2)
  have := t.at_ j v x h1 h2
  cases x with
  | dat d => exact RD.ext ex this
  | ptr k =>
    obtain ⟨b, h3, h4⟩ := this
    have hn : k ≠ l := by simpa [ML.noV] using hx
    exact ⟨b, by rw [List.getElem?_set_ne (fun z => hn z.symm)]; exact h3, h4⟩
theorem nodup_set {xs : List Addr} {l : Nat} {c : Addr} (h : xs.Nodup) (hc : c ∉ xs) : (xs.set l c).Nodup := by
  rw [List.Nodup, List.pairwise_iff_getElem] at h ⊢
  intro i j hi hj hij
  rw [List.length_set] at hi hj
  have hh := h i j hi hj hij
  rw [List.getElem_set, List.getElem_set]
  split
  · split
    · omega
    · exact fun z => hc (by rw [z]; exact List.getElem_mem _)
  · split
    · exact fun z => hc (by rw [← z]; exact List.getElem_mem _)
    · exact hh
end
section
variable {X : Cx} {EW : XK} {rf : List Nat} {k j r : Nat} {o : Expr} {p : Pa} {m cn : Str} {e : Expr} {es : List Expr} {F : List AO → Nat → List D → Res (D × List AO)} {g : En → Res (List D)} {apos pos : Pos} {pl : Sem Bool} {ps : List Str}
theorem le_methS (Fm : FnM X.prog X.w X.K X.mg X.base j cn m ps (spA X.K X.mg F)) (c : Cok X EW k) (hj : j ≤ k) (hrf : ∀ j ∈ rf, j = r) (ho : LPt X o p) (ha : LF X EW rf (e :: es) g)
    (hst : starEach (e :: es) X.env = (false, eval e X.env) :: starEach es X.env := by rfl) (hpl : (backTo pos (starEach es X.env)).any (·.1) = false := by rfl)
    (ht : eval (.Call (.Attribute o m apos) (e :: es) [] pos) X.env = (do
      let ov ← eval o X.env
      standAt apos.atName
      let (f, first) ← holding [ov] (getMethod ov m pl)
      callWith pos f first (backTo pos (starEach (e :: es) X.env)) (backToKw pos (keywordEach [] X.env))) := by rfl) :
    LE X EW rf (.Call (.Attribute o m apos) (e :: es) [] pos) (eMethS F r p cn m g) := by
  obtain ⟨C, gf, fd, hC, hM, hb, FG⟩ := Fm.ex
  refine ⟨fun H0 A hA => ⟨fun pins s σ H Q I q => ?_⟩⟩
  obtain ⟨ρ, sr, q⟩ := q
  unfold eMethS at q
  cases es0 : arS ρ r with
  | none => rw [es0] at q; exact q.elim
  | some z =>
  obtain ⟨ar, kk⟩ := z
  rw [es0] at q
  simp only at q
  cases ea : avOf ar ρ p with
  | none => rw [ea] at q; exact q.elim
  | some y =>
  cases y with
  | dat d => rw [ea] at q; exact q.elim
  | ptr k' =>
  rw [ea] at q
  simp only at q
  cases eb : subA ar k' cn m with
  | none => rw [eb] at q; exact q.elim
  | some z2 =>
  obtain ⟨l, sub⟩ := z2
  rw [eb] at q
  simp only at q
  by_cases hlk : l = kk
  · rw [if_pos hlk] at q; exact q.elim
  rw [if_neg hlk] at q
  obtain ⟨nn, xs, ys, ds0, xs1, e1, e2, e3, e4, hm, hne, hno, rfl⟩ := subA_eq eb
  obtain ⟨as, w⟩ := sr.nst r ar kk (arS_eq es0)
  obtain ⟨v, h1, a, h2, rfl⟩ := walk_of sr (arS_eq es0) w ea
  obtain ⟨C', dx, vs, g1, g2, g3, g4, g5, g6⟩ := w.ok.obj k' _ a e1 h2
  rw [hC] at g1
  cases g1
  refine methcall_of (pl := pl) ho.run I ⟨.ref a, h1, a, C, dx, nn.zip vs, gf, rfl, g5, g2, hM, lookup_none hm, fun s1 I1 => ?_⟩ ht
  have key : rF X EW H0 A g σ H (fun vs2 H2 => spA X.K X.mg F (.ref a :: vs2) H2 Q EW) := by
    refine ⟨ρ, sr, ?_⟩
    cases eg : g ρ with
    | stuck => rw [eg] at q; exact q.elim
    | exn c fs => rw [eg] at q; exact q
    | ok ds =>
    rw [eg] at q
    simp only at q
    intro vs2 H1 sm rv
    have sr1 := sr.sm sm
    have w1 := w.sm sm
    have hll : l < as.length := by rw [w.ok.len]; exact lt_of_some e2
    obtain ⟨al, hal⟩ : ∃ al, as[l]? = some al := ⟨_, List.getElem?_eq_getElem hll⟩
    have nal : a ≠ al := w.ok.ne h2 hal (fun z => hne z.symm)
    obtain ⟨C1, dx1, vs1, b1, b2, b3, b4, b5, b6⟩ := w1.ok.obj k' _ a e1 h2
    obtain ⟨us, b7, b8⟩ := w1.ok.obj l _ al e2 hal
    have sub0 : ∀ {b : Addr}, b ∈ [a, al] → b ∈ as := fun {b} hb => by
      rcases List.mem_cons.mp hb with rfl | hb
      · exact List.mem_of_getElem? h2
      · rw [List.mem_singleton.mp hb]; exact List.mem_of_getElem? hal
    refine ⟨[a, al], [.ins cn nn xs1, .lst ys], 0, a, vs2, ds, rfl, rfl, ⟨rfl, by simp [nal], fun jj o b q1 q2 => ?_⟩, rv, sr1.tb, ?_⟩
    · cases jj with
      | zero =>
        cases q1
        cases q2
        refine ⟨C1, dx1, vs1, b1, b2, b3, b4, b5, b6.mapV (fun v x y hf hv => ?_) e4⟩
        cases x with
        | dat d => cases hf; exact hv
        | ptr i =>
          have hg : (if i = l then some (AV.ptr 1) else none) = some y := hf
          clear hf
          by_cases e : i = l
          · rw [if_pos e] at hg
            subst e
            injection hg with hg
            subst hg
            obtain ⟨b, h3, h4⟩ := hv
            rw [hal] at h3
            cases h3
            exact ⟨al, rfl, h4⟩
          · rw [if_neg e] at hg
            cases hg
      | succ jj =>
        cases jj with
        | zero =>
          cases q1
          cases q2
          exact ⟨us, b7, b8.ofDats e3⟩
        | succ jj => simp at q1
    · cases ef : F [.ins cn nn xs1, .lst ys] 0 ds with
      | stuck => rw [ef] at q; exact q.elim
      | exn c fs =>
        rw [ef] at q
        exact fun cls e' H' ex s => q cls e' H' ex ⟨fun b o hb nb => (sr1.fr b o hb nb).step fun u z => s.kp b u (fun m => by rw [w1.new b (sub0 m)] at hb; cases hb) z, s.tb⟩
      | ok pr =>
      obtain ⟨d, sub'⟩ := pr
      rw [ef] at q
      simp only at q
      cases ek : backA ar k' l sub' with
      | none => rw [ek] at q; exact q.elim
      | some ar' =>
      rw [ek] at q
      simp only at q
      obtain ⟨cc, nn2, zs, ts, ds2, zs1, rfl, f1, f2, rfl⟩ := backA_eq ek
      intro v H' as' s hn ok hk rd
      have l2 := ok.len
      match as', l2, hk, hn, ok with
      | [a', c], _, hk, hn, ok =>
        have ea' : a' = a := by simpa using hk
        subst ea'
        have nac : a' ≠ c := ok.ne (i := 0) (j := 1) rfl rfl (by omega)
        have s' : SmL as H1 H' := ⟨fun b o nb hb => s.kp b o (fun m => nb (sub0 m)) hb, s.tb⟩
        have ex := s'.ext w1.ok
        have hc : c = al ∨ (c ∉ as ∧ H1 c = none) := by
          rcases hn c (by simp) with m | m
          · rcases List.mem_cons.mp m with z | z
            · exact absurd z.symm nac
            · exact .inl (List.mem_singleton.mp z)
          · refine .inr ⟨fun mm => ?_, m⟩
            rcases w1.ok.shape mm with ⟨xs, g⟩ | ⟨C, dx, fs, g⟩ <;> (rw [m] at g; cases g)
        have nod : (as.set l c).Nodup := by
          rcases hc with rfl | ⟨hc, _⟩
          · have : as.set l c = as := by
              rw [← (List.getElem?_eq_some_iff.mp hal).2, List.set_getElem_self]
            rw [this]; exact w.ok.nod
          · exact nodup_set w.ok.nod hc
        have hkl : (as.set l c)[k']? = some a' := by rw [List.getElem?_set_ne hne]; exact h2
        have hll' : (as.set l c)[l]? = some c := List.getElem?_set_self hll
        have ok2 : Aok X.K X.mg H' (as.set l c) ((ar.set k' (.ins cc nn2 zs1)).set l (.lst ts)) := by
          refine ⟨by rw [List.length_set, List.length_set, List.length_set]; exact w.ok.len, nod, fun jj o b q1 q2 => ?_⟩
          by_cases z1 : jj = l
          · subst z1
            rw [hll'] at q2
            cases q2
            rw [List.getElem?_set_self (by rw [List.length_set, ← w.ok.len]; exact hll)] at q1
            cases q1
            obtain ⟨us2, c1, c2⟩ := ok.obj 1 _ c rfl rfl
            exact ⟨us2, c1, c2.ofDats f2⟩
          · rw [List.getElem?_set_ne (fun z => z1 z.symm)] at q1 q2
            by_cases z2 : jj = k'
            · subst z2
              rw [h2] at q2
              cases q2
              rw [List.getElem?_set_self (lt_of_some e1)] at q1
              cases q1
              obtain ⟨C2, dx2, us2, c1, c2, c3, c4, c5, c6⟩ := ok.obj 0 _ a' rfl rfl
              refine ⟨C2, dx2, us2, c1, c2, c3, c4, c5, c6.mapV (fun v x y hf hv => ?_) f1⟩
              cases x with
              | dat d => cases hf; exact hv
              | ptr i =>
                have hg : (if i = 1 then some (AV.ptr l) else none) = some y := hf
                clear hf
                by_cases e : i = 1
                · rw [if_pos e] at hg
                  subst e
                  injection hg with hg
                  subst hg
                  obtain ⟨b, h3, h4⟩ := hv
                  cases h3
                  exact ⟨c, hll', h4⟩
                · rw [if_neg e] at hg
                  cases hg
            · have hset := q1
              rw [List.getElem?_set_ne (fun z => z2 z.symm)] at q1
              have na : b ≠ a' := w.ok.ne q2 h2 z2
              have nl : b ≠ al := w.ok.ne q2 hal z1
              have nb : b ∉ [a', al] := fun m => by
                rcases List.mem_cons.mp m with z | z
                · exact na z
                · exact nl (List.mem_singleton.mp z)
              have hoo : noO l o = true := List.all_eq_true.mp hno o (List.mem_of_getElem? (i := jj) (by rw [List.getElem?_set_ne (fun z => z2 z.symm)]; exact q1))
              have := w1.ok.obj jj o b q1 q2
              cases o with
              | lst xs2 =>
                obtain ⟨us2, c1, c2⟩ := this
                exact ⟨us2, (s.kp b _ nb c1).is fun ps z => (nomatch z), c2.noV ex hoo⟩
              | ins c3 nn3 xs3 =>
                obtain ⟨C2, dx2, us2, c1, c2, c3, c4, c5, c6⟩ := this
                exact ⟨C2, dx2, us2, c1, c2, c3, c4, (s.kp b _ nb c5).is fun ps z => (nomatch z), c6.noV ex hoo⟩
        obtain ⟨b0, hb1, hb2⟩ := w1.at_
        refine q v H' (sr1.setA (rf_A hA hrf) es0 w1 s' (fun b hb => ?_) ok2 hb1 (by rw [List.getElem?_set_ne hlk]; exact hb1)) ((Ext.of_sm sm).trans ex) rd
        rcases List.mem_or_eq_of_mem_set hb with m | rfl
        · exact .inl m
        · rcases hc with rfl | ⟨_, m⟩
          · exact .inl (List.mem_of_getElem? hal)
          · exact .inr m
  refine PySem.W.callWith_K (first := [.ref a]) (h₀ := X.base) I1.ok.mod.kin hM.kp (thn ((ha.run H0 A hA).run pos pins s1 σ H _ I1 key) fun us s2 ⟨vs2, H2, I2, r2, q2⟩ => ⟨I2.kIn, ?_⟩) hst hpl
  exact run_fnG (us := .ref a :: us) (vs := .ref a :: vs2) FG c hj hb I2 (.cons rfl r2) q2
end
end ML


namespace ML
open PySem PySem.Spec PyProof.Rows L2
variable [Tabs]
section
variable {ρ : En}
@[simp] theorem arS_zero (ar : List AO) (k : Nat) (t : En) : arS (some (.nst (.root ar k)) :: t) 0 = some (ar, k) := rfl
@[simp] theorem arS_succ (x : Option MV) (t : En) (r : Nat) : arS (x :: t) (r + 1) = arS t r := by unfold arS; rw [List.getElem?_cons_succ]
@[simp] theorem dropP_nil : dropP [] = [] := rfl
@[simp] theorem dropP_none (t : En) : dropP (none :: t) = none :: dropP t := rfl
@[simp] theorem dropP_dat (d : D) (t : En) : dropP (some (.dat d) :: t) = some (.dat d) :: dropP t := rfl
@[simp] theorem dropP_ptr (k : Nat) (t : En) : dropP (some (.nst (.ptr k)) :: t) = none :: dropP t := rfl
@[simp] theorem dropP_own (ds : List D) (t : En) : dropP (some (.own ds) :: t) = some (.own ds) :: dropP t := rfl
@[simp] theorem dropP_root (ar : List AO) (k : Nat) (t : En) : dropP (some (.nst (.root ar k)) :: t) = some (.nst (.root ar k)) :: dropP t := rfl
@[simp] theorem setA_zero (x : Option MV) (t : En) (ar : List AO) (k : Nat) : setA (x :: t) 0 ar k = some (.nst (.root ar k)) :: dropP t := rfl
@[simp] theorem rootE_zero (x : Option MV) (t : En) (ar : List AO) (k : Nat) : rootE (x :: t) 0 ar k = some (.nst (.root ar k)) :: t := rfl
@[simp] theorem eP_ap (r : Nat) (p : Pa) : eP r p ρ = need (pathD ρ r p) fun d => .ok (d, ρ) := by
  unfold eP; cases pathD ρ r p <;> rfl
@[simp] theorem eLenP_ap (r : Nat) (p : Pa) : eLenP r p ρ = need (pathL ρ r p) fun xs => .ok (.int (xs.length : Int), ρ) := by
  unfold eLenP; cases pathL ρ r p <;> rfl
@[simp] theorem eTupP_ap (r : Nat) (p : Pa) : eTupP r p ρ = need (pathL ρ r p) fun xs => need (datsA xs) fun ds => .ok (.tup ds, ρ) := by
  unfold eTupP
  cases pathL ρ r p with
  | none => rfl
  | some xs =>
    show (match datsA xs with | some ds => _ | none => _) = need (datsA xs) _
    cases datsA xs <;> rfl
@[simp] theorem datsA_map : ∀ ds : List D, datsA (ds.map AV.dat) = some ds
  | [] => rfl
  | d :: ds => by
    show (match datsA (ds.map AV.dat) with | some ds' => some (d :: ds') | none => none) = _
    rw [datsA_map ds]
@[simp] theorem sPset_ap (r : Nat) (p : Pa) (cn f : Str) (m : ME) : sPset r p cn f m ρ = (m ρ).bind fun z => psetEnd r p cn f z.1 z.2 := sThen_ap ρ m _
@[simp] theorem sPsetL_ap (r : Nat) (p : Pa) (cn f : Str) (m : MA) : sPsetL r p cn f m ρ = (m ρ).bind fun z => psetLEnd r p cn f z.1 z.2 := sThen_ap ρ m _
@[simp] theorem methEndA_ap (F : List AO → Nat → List D → Res (D × List AO)) (r : Nat) (ds : List D) : methEndA F r ds ρ = need (arS ρ r) fun z => (F z.1 z.2 ds).bind fun p => .ok (p.1, setA ρ r p.2 z.2) := by
  unfold methEndA
  cases arS ρ r with
  | none => rfl
  | some z =>
    obtain ⟨ar, k⟩ := z
    show (match F ar k ds with | .ok (d, ar') => _ | .exn c fs => _ | .stuck => _) = (F ar k ds).bind _
    cases F ar k ds with
    | ok p => cases p; rfl
    | exn c fs => rfl
    | stuck => rfl
@[simp] theorem eMethA_ap (F : List AO → Nat → List D → Res (D × List AO)) (r : Nat) (cn m : Str) (ma : MA) : eMethA F r cn m ma ρ = need (arS ρ r) fun z => if insAt z.1 z.2 cn m = true then (ma ρ).bind fun p => methEndA F r p.1 p.2 else .stuck := by
  unfold eMethA
  cases arS ρ r with
  | none => rfl
  | some z =>
    obtain ⟨ar, k⟩ := z
    show (if insAt ar k cn m = true then mThen ma (methEndA F r) ρ else .stuck) = if insAt ar k cn m = true then _ else _
    rw [mThen_ap]
end
@[simp] theorem outA_rt (k : Nat) (d : D) (ρ : En) : Fl.outA k (.rt d ρ) = need (arS ρ 0) fun z => if z.2 = k then .ok (d, z.1) else .stuck := by
  show (match arS ρ 0 with | some (ar, k') => _ | none => _) = _
  cases arS ρ 0 with
  | none => rfl
  | some z => rfl
@[simp] theorem outA_nx (k : Nat) (ρ : En) : Fl.outA k (.nx ρ) = need (arS ρ 0) fun z => if z.2 = k then .ok (.non, z.1) else .stuck := by
  show (match arS ρ 0 with | some (ar, k') => _ | none => _) = _
  cases arS ρ 0 with
  | none => rfl
  | some z => rfl
end ML


namespace ML
open PySem PySem.Spec PyProof.Rows L2
variable [Tabs]
def repS (a : Str) (n : Nat) : Str := ⟨((List.replicate n a.cps.toList).flatten).toArray⟩
theorem fold_cat (c : Array Nat) : ∀ (n : Nat) (acc : Array Nat), ((List.replicate n c).foldl (· ++ ·) acc).toList = acc.toList ++ (List.replicate n c.toList).flatten
  | 0, acc => by simp
  | n + 1, acc => by
    rw [List.replicate_succ, List.foldl_cons, fold_cat c n, List.replicate_succ, List.flatten_cons, Array.toList_append, List.append_assoc]
theorem repS_fold (a : Str) (n : Nat) : (⟨(List.replicate n a.cps).foldl (· ++ ·) #[]⟩ : Str) = repS a n := by
  unfold repS
  congr 1
  rw [← Array.toList_inj, fold_cat]
  simp
theorem repS_len (a : Str) (n : Nat) : (repS a n).length = n * a.length := by
  show ((List.replicate n a.cps.toList).flatten).toArray.size = _
  rw [List.size_toArray, List.length_flatten, List.map_replicate, List.sum_replicate_nat, Array.length_toList]
  rfl
theorem op_strRep {X : Cx} : OpR X (binaryOp .Mult) (fun x y H Q => ∃ a k, x = .str a ∧ y = .int k ∧ 0 ≤ k ∧ k ≤ 1000000 ∧ a.length * k.toNat ≤ 1000000 ∧ Q (.str (repS a k.toNat)) H) := by
  intro pins s σ H x y v u Q I rx ry ⟨a, k, ex, ey, k0, k1, kl, q⟩
  subst ex ey
  obtain ⟨t, rfl⟩ := rx
  obtain ⟨t', rfl⟩ := ry
  have hd : (decide (k < -(2 ^ 63 : Int)) || decide (k ≥ 2 ^ 63)) = false := by
    rw [decide_eq_false (by omega), decide_eq_false (by omega)]; rfl
  refine PySem.P.mul_str hd (fun h1 h2 => ?_) (fun h1 h2 => ?_) ?_
  · have hk : 0 < k := by omega
    have hn : ((a.length * k.toNat : Nat) : Int) ≤ 1000000 := by omega
    have e : ((a.length * k.toNat : Nat) : Int) = (a.length : Int) * k := by
      rw [Int.natCast_mul, Int.toNat_of_nonneg k0]
    rw [e] at hn
    have : (a.length : Int) ≤ (2 ^ 63 - 1) / k := by
      rw [Int.le_ediv_iff_mul_le hk]
      omega
    omega
  · unfold PySem.Builtin.Str.tooLong
    exact decide_eq_false (by
      have : (1000000 : Nat) ≤ sizeLine := by decide
      omega)
  · by_cases h1 : k < 1
    · rw [if_pos h1]
      have e : k.toNat = 0 := by omega
      have e2 : repS a k.toNat = Str.empty := by rw [e]; rfl
      rw [e2] at q
      exact ⟨by decide, ⟨.str Str.empty, H, I.kept (t' := s.toks + 1) (fun _ _ z => z), ⟨_, rfl⟩, q⟩⟩
    · rw [if_neg h1]
      by_cases h2 : (k == 1 || a.length == 0) = true
      · rw [if_pos h2]
        have e2 : repS a k.toNat = a := by
          rw [Bool.or_eq_true] at h2
          rcases h2 with h2 | h2
          · have : k = 1 := by simpa using h2
            subst this
            show (⟨((List.replicate 1 a.cps.toList).flatten).toArray⟩ : Str) = a
            simp
          · have : a.length = 0 := by simpa using h2
            have e0 : a.cps.toList = [] := List.eq_nil_of_length_eq_zero (by rw [Array.length_toList]; exact this)
            unfold repS
            rw [e0]
            cases a with
            | mk c =>
              congr 1
              rw [← Array.toList_inj]
              simp [show c.toList = [] from e0]
        rw [e2] at q
        exact ⟨.str a, H, I, ⟨_, rfl⟩, q⟩
      · rw [if_neg h2]
        rw [repS_fold]
        exact ⟨by
          rw [repS_len]
          have : (1000000 : Nat) ≤ sizeLine := by decide
          rw [Nat.mul_comm]
          omega, ⟨.str (repS a k.toNat), H, I.kept (t' := s.toks + 1) (fun _ _ z => z), ⟨_, rfl⟩, q⟩⟩
def mulYD (x y : D) : Res D := match x, y with
  | .str a, .int k => if 0 ≤ k ∧ k ≤ 1000000 ∧ a.length * k.toNat ≤ 1000000 then .ok (.str (repS a k.toNat)) else .stuck
  | x, y => mulXD x y
theorem op2_mulYD {X : Cx} : Op2 X (binaryOp .Mult) mulYD := by
  refine ⟨fun a b c fs => by
    unfold mulYD
    split
    · split <;> simp
    · exact (op2_mulXD (X := X)).1 a b c fs, fun pins s σ H x y v u Q I rx ry ⟨dx, dy, d, hx, hy, hg, q⟩ => ?_⟩
  unfold mulYD at hg
  split at hg
  · split at hg
    · rename_i hk
      cases hg; cases hx; cases hy
      exact op_strRep pins s σ H _ _ v u Q I rx ry ⟨_, _, rfl, rfl, hk.1, hk.2.1, hk.2.2, q _ H (Same.refl H) (.str _)⟩
    · cases hg
  · exact op2_mulXD.2 pins s σ H x y v u Q I rx ry ⟨_, _, d, hx, hy, hg, q⟩
end ML


namespace ML
open PySem PySem.Spec PyProof.Rows L2
variable [Tabs]
section
variable {X : Cx} {i : Nat} {a : Addr} {oe : Obj} {d : Option Addr} {pn : List (Addr × Obj)} {fs : List (Str × D)} {e : Expr} {es : List Expr} {ms : MA} {pos : Pos}
theorem lx_bnB {x : Str} {id : String} {p : Pos} {g : List D → Res D} (ho : Bn (X.suite a ((a, oe) :: pn)) (.builtin id) g) (hg : Gl X x) (hm : X.mg x = none) (hv : bootBuiltins x = some (.builtin id)) (ha : LXA X i a oe d pn fs (e :: es) ms) (hn : x ≠ "__name__" := by decide)
    (hdb : (x == ("__debug__" : Str)) = false := by decide) (he : starEach (e :: es) X.env = (false, eval e X.env) :: starEach es X.env := by rfl) (hpl : (backTo pos (starEach es X.env)).any (·.1) = false := by rfl) :
    LX X i a oe d pn fs (.Call (.Name x p) (e :: es) [] pos) (eB g ms) := by
  refine ⟨fun H0 vs hd => (pe_callB (X := X.suite a ((a, oe) :: pn)) ho.2 hg hm hv (ha.run H0 vs hd) hn hdb he hpl).imp fun σ H Q ⟨p, q⟩ => ⟨p, ?_⟩⟩
  exact (rM.last (R := RA X) q ho.1).mono fun x H1 ⟨dx, d, r, hd, q⟩ => ⟨dx, d, r, hd, q⟩
end
end ML


namespace LAW
open PySem PySem.Spec PyProof.Rows L2 ML
/-! ### the text -/
abbrev n_clamped : List PySem.Str := ["x", "most"]
abbrev p_clamped : List PySem.Str := ["x", "most"]
theorem sc_clamped : FnScope n_clamped p_clamped (defScope s_clamped) := ⟨rfl, rfl, rfl, by decide +kernel, rfl, by decide +kernel, by decide +kernel⟩
abbrev n_within : List PySem.Str := ["x", "most"]
abbrev p_within : List PySem.Str := ["x", "most"]
theorem sc_within : FnScope n_within p_within (defScope s_within) := ⟨rfl, rfl, rfl, by decide +kernel, rfl, by decide +kernel, by decide +kernel⟩
abbrev n_places : List PySem.Str := ["size", "stride", "n"]
abbrev p_places : List PySem.Str := ["size", "stride", "n"]
theorem sc_places : FnScope n_places p_places (defScope s_places) := ⟨rfl, rfl, rfl, by decide +kernel, rfl, by decide +kernel, by decide +kernel⟩
abbrev n_gives : List PySem.Str := ["layer", "n", "kind"]
abbrev p_gives : List PySem.Str := ["layer", "n"]
theorem sc_gives : FnScope n_gives p_gives (defScope s_gives) := ⟨rfl, rfl, rfl, by decide +kernel, rfl, by decide +kernel, by decide +kernel⟩
abbrev n_last_length : List PySem.Str := ["layers", "n", "length", "layer"]
abbrev p_last_length : List PySem.Str := ["layers", "n"]
theorem sc_last_length : FnScope n_last_length p_last_length (defScope s_last_length) := ⟨rfl, rfl, rfl, by decide +kernel, rfl, by decide +kernel, by decide +kernel⟩
abbrev n_is_allowed : List PySem.Str := ["sign"]
abbrev p_is_allowed : List PySem.Str := ["sign"]
theorem sc_is_allowed : FnScope n_is_allowed p_is_allowed (defScope s_is_allowed) := ⟨rfl, rfl, rfl, by decide +kernel, rfl, by decide +kernel, by decide +kernel⟩
abbrev n_words_of : List PySem.Str := ["line", "words", "word"]
abbrev p_words_of : List PySem.Str := ["line"]
theorem sc_words_of : FnScope n_words_of p_words_of (defScope s_words_of) := ⟨rfl, rfl, rfl, by decide +kernel, rfl, by decide +kernel, by decide +kernel⟩
abbrev n_is_number : List PySem.Str := ["word", "digits"]
abbrev p_is_number : List PySem.Str := ["word"]
theorem sc_is_number : FnScope n_is_number p_is_number (defScope s_is_number) := ⟨rfl, rfl, rfl, by decide +kernel, rfl, by decide +kernel, by decide +kernel⟩
abbrev n_is_count_right : List PySem.Str := ["words"]
abbrev p_is_count_right : List PySem.Str := ["words"]
theorem sc_is_count_right : FnScope n_is_count_right p_is_count_right (defScope s_is_count_right) := ⟨rfl, rfl, rfl, by decide +kernel, rfl, by decide +kernel, by decide +kernel⟩
abbrev n_number_words : List PySem.Str := ["words"]
abbrev p_number_words : List PySem.Str := ["words"]
theorem sc_number_words : FnScope n_number_words p_number_words (defScope s_number_words) := ⟨rfl, rfl, rfl, by decide +kernel, rfl, by decide +kernel, by decide +kernel⟩
abbrev n_is_in_range : List PySem.Str := ["word", "number"]
abbrev p_is_in_range : List PySem.Str := ["word", "number"]
theorem sc_is_in_range : FnScope n_is_in_range p_is_in_range (defScope s_is_in_range) := ⟨rfl, rfl, rfl, by decide +kernel, rfl, by decide +kernel, by decide +kernel⟩
abbrev n_numbers_of : List PySem.Str := ["line", "words", "numbers", "word"]
abbrev p_numbers_of : List PySem.Str := ["line", "words"]
theorem sc_numbers_of : FnScope n_numbers_of p_numbers_of (defScope s_numbers_of) := ⟨rfl, rfl, rfl, by decide +kernel, rfl, by decide +kernel, by decide +kernel⟩
abbrev n_parse : List PySem.Str := ["text", "lines", "at", "line", "reader", "words", "sign"]
abbrev p_parse : List PySem.Str := ["text"]
theorem sc_parse : FnScope n_parse p_parse (defScope s_parse) := ⟨rfl, rfl, rfl, by decide +kernel, rfl, by decide +kernel, by decide +kernel⟩
abbrev n__law_cell : List PySem.Str := ["script", "k"]
abbrev p__law_cell : List PySem.Str := ["script", "k"]
theorem sc__law_cell : FnScope n__law_cell p__law_cell (defScope s__law_cell) := ⟨rfl, rfl, rfl, by decide +kernel, rfl, by decide +kernel, by decide +kernel⟩
abbrev n__law_digits : List PySem.Str := ["script", "first", "last", "digits", "k", "cell", "turn", "seed"]
abbrev p__law_digits : List PySem.Str := ["script", "first", "last"]
theorem sc__law_digits : FnScope n__law_digits p__law_digits (defScope s__law_digits) := ⟨rfl, rfl, rfl, by decide +kernel, rfl, by decide +kernel, by decide +kernel⟩
abbrev n__law_draw : List PySem.Str := ["box", "many", "at"]
abbrev p__law_draw : List PySem.Str := ["box", "many"]
theorem sc__law_draw : FnScope n__law_draw p__law_draw (defScope s__law_draw) := ⟨rfl, rfl, rfl, by decide +kernel, rfl, by decide +kernel, by decide +kernel⟩
abbrev n__law_read : List PySem.Str := ["text", "net", "e"]
abbrev p__law_read : List PySem.Str := ["text"]
theorem sc__law_read : FnScope n__law_read p__law_read (defScope s__law_read) := ⟨rfl, rfl, rfl, by decide +kernel, rfl, by decide +kernel, by decide +kernel⟩
abbrev n__law_places : List PySem.Str := ["out", "rows"]
abbrev p__law_places : List PySem.Str := []
theorem sc__law_places : FnScope n__law_places p__law_places (defScope s__law_places) := ⟨rfl, rfl, rfl, by decide +kernel, rfl, by decide +kernel, by decide +kernel⟩
abbrev n__law_counts : List PySem.Str := ["bad", "rows"]
abbrev p__law_counts : List PySem.Str := []
theorem sc__law_counts : FnScope n__law_counts p__law_counts (defScope s__law_counts) := ⟨rfl, rfl, rfl, by decide +kernel, rfl, by decide +kernel, by decide +kernel⟩
abbrev n__law_numbers : List PySem.Str := ["no", "far", "rows"]
abbrev p__law_numbers : List PySem.Str := []
theorem sc__law_numbers : FnScope n__law_numbers p__law_numbers (defScope s__law_numbers) := ⟨rfl, rfl, rfl, by decide +kernel, rfl, by decide +kernel, by decide +kernel⟩
abbrev n__law_rows : List PySem.Str := ["bad", "rows"]
abbrev p__law_rows : List PySem.Str := []
theorem sc__law_rows : FnScope n__law_rows p__law_rows (defScope s__law_rows) := ⟨rfl, rfl, rfl, by decide +kernel, rfl, by decide +kernel, by decide +kernel⟩
abbrev n__law_kernels : List PySem.Str := ["rows"]
abbrev p__law_kernels : List PySem.Str := []
theorem sc__law_kernels : FnScope n__law_kernels p__law_kernels (defScope s__law_kernels) := ⟨rfl, rfl, rfl, by decide +kernel, rfl, by decide +kernel, by decide +kernel⟩
abbrev n__law_ahead : List PySem.Str := ["box", "kind", "inner"]
abbrev p__law_ahead : List PySem.Str := ["box", "kind"]
theorem sc__law_ahead : FnScope n__law_ahead p__law_ahead (defScope s__law_ahead) := ⟨rfl, rfl, rfl, by decide +kernel, rfl, by decide +kernel, by decide +kernel⟩
abbrev n__law_ends : List PySem.Str := ["box", "lines", "many", "text", "due", "kind"]
abbrev p__law_ends : List PySem.Str := ["box"]
theorem sc__law_ends : FnScope n__law_ends p__law_ends (defScope s__law_ends) := ⟨rfl, rfl, rfl, by decide +kernel, rfl, by decide +kernel, by decide +kernel⟩
abbrev n__law_parts : List PySem.Str := ["box", "kind", "many", "text", "due"]
abbrev p__law_parts : List PySem.Str := ["box"]
theorem sc__law_parts : FnScope n__law_parts p__law_parts (defScope s__law_parts) := ⟨rfl, rfl, rfl, by decide +kernel, rfl, by decide +kernel, by decide +kernel⟩
abbrev n_law : List PySem.Str := ["script", "box", "row", "lines", "line", "wrong", "text", "told"]
abbrev p_law : List PySem.Str := ["script"]
theorem sc_law : FnScope n_law p_law (defScope s_law) := ⟨rfl, rfl, rfl, by decide +kernel, rfl, by decide +kernel, by decide +kernel⟩
abbrev n_Part_add_layer : List PySem.Str := ["self", "line", "layer"]
abbrev p_Part_add_layer : List PySem.Str := ["self", "line", "layer"]
theorem sc_Part_add_layer : FnScope n_Part_add_layer p_Part_add_layer (defScope s_Part_add_layer) := ⟨rfl, rfl, rfl, by decide +kernel, rfl, by decide +kernel, by decide +kernel⟩
abbrev n_Reader_read_line : List PySem.Str := ["self", "line", "words", "numbers"]
abbrev p_Reader_read_line : List PySem.Str := ["self", "line", "words"]
theorem sc_Reader_read_line : FnScope n_Reader_read_line p_Reader_read_line (defScope s_Reader_read_line) := ⟨rfl, rfl, rfl, by decide +kernel, rfl, by decide +kernel, by decide +kernel⟩
abbrev n_Reader_read_first : List PySem.Str := ["self", "line", "words"]
abbrev p_Reader_read_first : List PySem.Str := ["self", "line", "words"]
theorem sc_Reader_read_first : FnScope n_Reader_read_first p_Reader_read_first (defScope s_Reader_read_first) := ⟨rfl, rfl, rfl, by decide +kernel, rfl, by decide +kernel, by decide +kernel⟩
abbrev n_Reader_is_own : List PySem.Str := ["self", "word"]
abbrev p_Reader_is_own : List PySem.Str := ["self", "word"]
theorem sc_Reader_is_own : FnScope n_Reader_is_own p_Reader_is_own (defScope s_Reader_is_own) := ⟨rfl, rfl, rfl, by decide +kernel, rfl, by decide +kernel, by decide +kernel⟩
abbrev n_Reader_is_in_place : List PySem.Str := ["self", "word"]
abbrev p_Reader_is_in_place : List PySem.Str := ["self", "word"]
theorem sc_Reader_is_in_place : FnScope n_Reader_is_in_place p_Reader_is_in_place (defScope s_Reader_is_in_place) := ⟨rfl, rfl, rfl, by decide +kernel, rfl, by decide +kernel, by decide +kernel⟩
abbrev n_Reader_is_full : List PySem.Str := ["self", "word"]
abbrev p_Reader_is_full : List PySem.Str := ["self", "word"]
theorem sc_Reader_is_full : FnScope n_Reader_is_full p_Reader_is_full (defScope s_Reader_is_full) := ⟨rfl, rfl, rfl, by decide +kernel, rfl, by decide +kernel, by decide +kernel⟩
abbrev n_Reader_add_line : List PySem.Str := ["self", "line", "word", "numbers"]
abbrev p_Reader_add_line : List PySem.Str := ["self", "line", "word", "numbers"]
theorem sc_Reader_add_line : FnScope n_Reader_add_line p_Reader_add_line (defScope s_Reader_add_line) := ⟨rfl, rfl, rfl, by decide +kernel, rfl, by decide +kernel, by decide +kernel⟩
abbrev n_Reader_add_row : List PySem.Str := ["self", "line", "word", "numbers", "size", "length"]
abbrev p_Reader_add_row : List PySem.Str := ["self", "line", "word", "numbers"]
theorem sc_Reader_add_row : FnScope n_Reader_add_row p_Reader_add_row (defScope s_Reader_add_row) := ⟨rfl, rfl, rfl, by decide +kernel, rfl, by decide +kernel, by decide +kernel⟩
abbrev n_Reader_add_plain : List PySem.Str := ["self", "line", "layer", "part"]
abbrev p_Reader_add_plain : List PySem.Str := ["self", "line", "layer"]
theorem sc_Reader_add_plain : FnScope n_Reader_add_plain p_Reader_add_plain (defScope s_Reader_add_plain) := ⟨rfl, rfl, rfl, by decide +kernel, rfl, by decide +kernel, by decide +kernel⟩
abbrev n_Reader_end_rows : List PySem.Str := ["self", "layer"]
abbrev p_Reader_end_rows : List PySem.Str := ["self"]
theorem sc_Reader_end_rows : FnScope n_Reader_end_rows p_Reader_end_rows (defScope s_Reader_end_rows) := ⟨rfl, rfl, rfl, by decide +kernel, rfl, by decide +kernel, by decide +kernel⟩
abbrev n_Reader_end_branches : List PySem.Str := ["self", "line", "second", "first", "layer"]
abbrev p_Reader_end_branches : List PySem.Str := ["self", "line"]
theorem sc_Reader_end_branches : FnScope n_Reader_end_branches p_Reader_end_branches (defScope s_Reader_end_branches) := ⟨rfl, rfl, rfl, by decide +kernel, rfl, by decide +kernel, by decide +kernel⟩
abbrev n_Reader_ended : List PySem.Str := ["self", "line"]
abbrev p_Reader_ended : List PySem.Str := ["self", "line"]
theorem sc_Reader_ended : FnScope n_Reader_ended p_Reader_ended (defScope s_Reader_ended) := ⟨rfl, rfl, rfl, by decide +kernel, rfl, by decide +kernel, by decide +kernel⟩
abbrev n_Part___init__ : List PySem.Str := ["self", "inputs"]
abbrev p_Part___init__ : List PySem.Str := ["self", "inputs"]
theorem sc_Part___init__ : FnScope n_Part___init__ p_Part___init__ (defScope s_Part___init__) := ⟨rfl, rfl, rfl, by decide +kernel, rfl, by decide +kernel, by decide +kernel⟩
abbrev n_Reader___init__ : List PySem.Str := ["self"]
abbrev p_Reader___init__ : List PySem.Str := ["self"]
theorem sc_Reader___init__ : FnScope n_Reader___init__ p_Reader___init__ (defScope s_Reader___init__) := ⟨rfl, rfl, rfl, by decide +kernel, rfl, by decide +kernel, by decide +kernel⟩
theorem sc_init_BadNet : FnScope ["self", "line", "reason"] ["self", "line", "reason"] (defScope s_init_BadNet) := ⟨rfl, rfl, rfl, by decide +kernel, rfl, by decide +kernel, by decide +kernel⟩
theorem sc_init_Part : FnScope ["self", "inputs"] ["self", "inputs"] (defScope s_init_Part) := ⟨rfl, rfl, rfl, by decide +kernel, rfl, by decide +kernel, by decide +kernel⟩
theorem sc_init_Reader : FnScope ["self"] ["self"] (defScope s_init_Reader) := ⟨rfl, rfl, rfl, by decide +kernel, rfl, by decide +kernel, by decide +kernel⟩
/-! ### what each def does -/
def b_clamped : MS := sSeq (sIf (bV (e2 gtD (eVar 0) (eVar 1))) (sRet (eVar 1)) (sNil)) (sSeq (sIf (bV (e2 ltD (eVar 0) (e1 negD (eVar 1)))) (sRet (e1 negD (eVar 1))) (sNil)) (sRet (eVar 0)))
def m_clamped := runP 2 2 b_clamped
def b_within : MS := sRet (e2 eqD (eCall m_clamped (aCons (eVar 0) (aCons (eVar 1) (aNil)))) (eVar 0))
def m_within := runP 2 2 b_within
def b_places : MS := sRet (oE (mLast (aCons (eC (.int (0))) (aCons (e2 addD (e2 subD (eVar 2) (eVar 0)) (eC (.int (1)))) (aCons (eVar 1) (aNil)))) listRng))
def m_places := runP 3 3 b_places
def b_gives (r : Nat → List D → Res D) : MS := sSeq (sSet 2 (eIxV 0 (eC (.int (0))))) (sSeq (sIf (bV (e2 eqD (eVar 2) (eC (.str "dense")))) (sRet (eB lenD (aCons (eIxV 0 (eC (.int (1)))) (aNil)))) (sNil)) (sSeq (sIf (bV (e2 eqD (eVar 2) (eC (.str "conv")))) (sRet (e2 mulD (eB lenD (aCons (eIxV 0 (eC (.int (1)))) (aNil))) (eB lenD (aCons (eCall m_places (aCons (eB lenD (aCons (e2 ixD (eIxV 0 (eC (.int (1)))) (eC (.int (0)))) (aNil))) (aCons (eIxV 0 (eC (.int (3)))) (aCons (eVar 1) (aNil))))) (aNil))))) (sNil)) (sSeq (sIf (bV (e2 inD (eVar 2) (eTup (aCons (eC (.str "max")) (aCons (eC (.str "mean")) (aNil)))))) (sRet (e2 fdivD (eVar 1) (eIxV 0 (eC (.int (1)))))) (sNil)) (sSeq (sIf (bV (e2 eqD (eVar 2) (eC (.str "sum")))) (sRet (eCall (r 1) (aCons (eIxV 0 (eC (.int (1)))) (aCons (eVar 1) (aNil))))) (sNil)) (sSeq (sIf (bV (e2 eqD (eVar 2) (eC (.str "fork")))) (sRet (e2 addD (eCall (r 1) (aCons (eIxV 0 (eC (.int (1)))) (aCons (eVar 1) (aNil)))) (eCall (r 1) (aCons (eIxV 0 (eC (.int (2)))) (aCons (eVar 1) (aNil)))))) (sNil)) (sRet (eVar 1)))))))
def b_last_length (r : Nat → List D → Res D) : MS := sSeq (sSet 2 (eVar 1)) (sSeq (sFor (mLast (eVar 0) asAny) (gN 3) (sSet 2 (eCall (r 0) (aCons (eVar 3) (aCons (eVar 2) (aNil)))))) (sRet (eVar 2)))
def m_g0 : Nat → Nat → List D → Res D
  | 0, _ => fun _ => .stuck
  | n + 1, 0 => runP 3 2 (b_gives (m_g0 n))
  | n + 1, 1 => runP 4 2 (b_last_length (m_g0 n))
  | _ + 1, _ + 2 => fun _ => .stuck
def m_gives : List D → Res D := m_g0 12 0
def m_last_length : List D → Res D := m_g0 12 1
def b_is_allowed : MS := sRet (vAnd (eChain leSD leSD (eC (.str " ")) (eVar 0) (eC (.str "~"))) (e2 neD (eB ordD (aCons (eVar 0) (aNil))) (eC (.int (37)))))
def m_is_allowed := runP 1 1 b_is_allowed
def b_words_of : MS := sSeq (sOwn 1 (oLst (aNil))) (sSeq (sFor (mLast (eSM0 wordsD (eVar 0)) asAny) (gN 2) (sSeq (sIf (bV (eSM startsD (eVar 2) (eC (.str "#")))) (sBrk) (sNil)) (sApp 1 (eVar 2)))) (sRet (eVar 1)))
def m_words_of := runP 3 1 b_words_of
def b_is_number : MS := sSeq (sSet 1 (eSM unprefD (eVar 0) (eC (.str "-")))) (sSeq (sIf (bOr (bNot (bV (eSM0 isdigD (eVar 1)))) (bV (e2 gtD (eB lenTD (aCons (eVar 1) (aNil))) (eC (.int (9)))))) (sRet (eC (.bl false))) (sNil)) (sRet (vOr (e2 eqD (eVar 0) (eC (.str "0"))) (vNot (eSM startsD (eVar 1) (eC (.str "0")))))))
def m_is_number := runP 2 1 b_is_number
def b_is_count_right : MS := sSeq (sIf (bV (e2 inD (eIxV 0 (eC (.int (0)))) (eTup (aCons (eC (.str "row")) (aCons (eC (.str "kernel")) (aNil)))))) (sRet (vAnd (e2 geD (eB lenD (aCons (eVar 0) (aNil))) (e1 (tabD [("net", .int (2)), ("dense", .int (1)), ("row", .int (4)), ("conv", .int (2)), ("kernel", .int (4)), ("relu", .int (1)), ("clamp", .int (3)), ("max", .int (2)), ("mean", .int (2)), ("sum", .int (1)), ("with", .int (1)), ("fork", .int (1)), ("end", .int (1)), ("done", .int (1))]) (eIxV 0 (eC (.int (0)))))) (e2 eqD (eIxV 0 (e1 negD (eC (.int (2))))) (eC (.str "bias"))))) (sNil)) (sRet (e2 eqD (eB lenD (aCons (eVar 0) (aNil))) (e1 (tabD [("net", .int (2)), ("dense", .int (1)), ("row", .int (4)), ("conv", .int (2)), ("kernel", .int (4)), ("relu", .int (1)), ("clamp", .int (3)), ("max", .int (2)), ("mean", .int (2)), ("sum", .int (1)), ("with", .int (1)), ("fork", .int (1)), ("end", .int (1)), ("done", .int (1))]) (eIxV 0 (eC (.int (0)))))))
def m_is_count_right := runP 1 1 b_is_count_right
def b_number_words : MS := sSeq (sIf (bV (e2 inD (eIxV 0 (eC (.int (0)))) (eTup (aCons (eC (.str "row")) (aCons (eC (.str "kernel")) (aNil)))))) (sRet (e2 addD (eSl (eVar 0) (pSo (eC (.int (1)))) (pSo (e1 negD (eC (.int (2)))))) (eSl (eVar 0) (pSo (e1 negD (eC (.int (1))))) (pNo)))) (sNil)) (sRet (eSl (eVar 0) (pSo (eC (.int (1)))) (pNo)))
def m_number_words := runP 1 1 b_number_words
def b_is_in_range : MS := sSeq (sIf (bV (e2 eqD (eVar 0) (eC (.str "net")))) (sRet (eChain leD leD (eC (.int (1))) (eVar 1) (eC (.int (16))))) (sNil)) (sSeq (sIf (bV (e2 eqD (eVar 0) (eC (.str "conv")))) (sRet (eChain leD leD (eC (.int (1))) (eVar 1) (eC (.int (64))))) (sNil)) (sSeq (sIf (bV (e2 eqD (eVar 0) (eC (.str "max")))) (sRet (e2 geD (eVar 1) (eC (.int (1))))) (sNil)) (sSeq (sIf (bV (e2 eqD (eVar 0) (eC (.str "mean")))) (sRet (e2 inD (eVar 1) (eC (.tup [.int (1), .int (2), .int (4), .int (8), .int (16), .int (32), .int (64)])))) (sNil)) (sSeq (sIf (bV (e2 eqD (eVar 0) (eC (.str "clamp")))) (sRet (eCall m_within (aCons (eVar 1) (aCons (eC (.int (16777216))) (aNil))))) (sNil)) (sRet (eCall m_within (aCons (eVar 1) (aCons (eC (.int (1048576))) (aNil)))))))))
def m_is_in_range := runP 2 2 b_is_in_range
def b_numbers_of : MS := sSeq (sOwn 2 (oLst (aNil))) (sSeq (sFor (mLast (eCall m_number_words (aCons (eVar 1) (aNil))) asAny) (gN 3) (sSeq (sIf (bNot (bV (eCall m_is_number (aCons (eVar 3) (aNil))))) (sRaise2 "BadNet" "line" "reason" (aCons (eVar 0) (aCons (eC (.str "not a number")) (aNil)))) (sNil)) (sSeq (sIf (bNot (bV (eCall m_is_in_range (aCons (eIxV 1 (eC (.int (0)))) (aCons (eB intTD (aCons (eVar 3) (aNil))) (aNil)))))) (sRaise2 "BadNet" "line" "reason" (aCons (eVar 0) (aCons (eC (.str "number out of range")) (aNil)))) (sNil)) (sApp 2 (eB intTD (aCons (eVar 3) (aNil))))))) (sSeq (sIf (bAnd (bV (e2 eqD (eIxV 1 (eC (.int (0)))) (eC (.str "clamp")))) (bV (e2 gtD (eIxV 2 (eC (.int (0)))) (eIxV 2 (eC (.int (1))))))) (sRaise2 "BadNet" "line" "reason" (aCons (eVar 0) (aCons (eC (.str "number out of range")) (aNil)))) (sNil)) (sRet (eB tupleD (aCons (eVar 2) (aNil))))))
def m_numbers_of := runP 4 2 b_numbers_of
def b_Reader___init__ : MS := sSeq (sPsetL 0 (.slot 0) "Reader" "parts" (oLst (aNil))) (sSeq (sPset 0 (.slot 0) "Reader" "branching" (eC (.str ""))) (sSeq (sPset 0 (.slot 0) "Reader" "head" (eTup (aNil))) (sSeq (sPsetL 0 (.slot 0) "Reader" "rows" (oLst (aNil))) (sSeq (sPsetL 0 (.slot 0) "Reader" "biases" (oLst (aNil))) (sSeq (sPset 0 (.slot 0) "Reader" "row_line" (eC (.int (0)))) (sPset 0 (.slot 0) "Reader" "is_done" (eC (.bl false))))))))
def m_Reader___init__ := runA 1 1 b_Reader___init__
def b_Part_add_layer : MS := sSeq (sPapp 0 (.fld (.slot 0) "layers") (fPs 0 [.slot 2])) (sSeq (sPset 0 (.slot 0) "Part" "length" (eCall m_gives (aCons (eVar 2) (aCons (eP 0 (.fld (.slot 0) "length")) (aNil))))) (sIf (bV (e2 gtD (eP 0 (.fld (.slot 0) "length")) (eC (.int (64))))) (sRaise2 "BadNet" "line" "reason" (aCons (eVar 1) (aCons (eC (.str "wrong length")) (aNil)))) (sNil)))
def m_Part_add_layer := runA 3 3 b_Part_add_layer
def b_Reader_end_rows : MS := sSeq (sIf (bV (e2 eqD (eLenP 0 (.fld (.slot 0) "rows")) (eC (.int (0))))) (sRetN) (sNil)) (sSeq (sSet 1 (e2 addD (eTup (aCons (e2 ixD (eP 0 (.fld (.slot 0) "head")) (eC (.int (0)))) (aCons (eTupP 0 (.fld (.slot 0) "rows")) (aCons (eTupP 0 (.fld (.slot 0) "biases")) (aNil))))) (eSl (eP 0 (.fld (.slot 0) "head")) (pSo (eC (.int (1)))) (pNo)))) (sSeq (sPset 0 (.slot 0) "Reader" "head" (eTup (aNil))) (sSeq (sPsetL 0 (.slot 0) "Reader" "rows" (oLst (aNil))) (sSeq (sPsetL 0 (.slot 0) "Reader" "biases" (oLst (aNil))) (sExpr (eMethS m_Part_add_layer 0 (.idx (.fld (.slot 0) "parts") (-1)) "Part" "add_layer" (fPs 0 [.fld (.slot 0) "row_line", .slot 1])))))))
def m_Reader_end_rows := runA 2 1 b_Reader_end_rows
def b_Reader_ended : MS := sSeq (sExpr (eMethA m_Reader_end_rows 0 "Reader" "end_rows" aNil)) (sSeq (sIf (bNot (bV (eP 0 (.fld (.slot 0) "is_done")))) (sRaise2 "BadNet" "line" "reason" (aCons (eVar 1) (aCons (eC (.str "done expected")) (aNil)))) (sNil)) (sRet (eTup (aCons (eC (.str "net")) (aCons (eP 0 (.fld (.idx (.fld (.slot 0) "parts") (0)) "inputs")) (aCons (eTupP 0 (.fld (.idx (.fld (.slot 0) "parts") (0)) "layers")) (aNil)))))))
def m_Reader_ended := runA 2 2 b_Reader_ended
def b_Reader_is_full : MS := sSeq (sIf (bV (e2 eqD (eVar 1) (eC (.str "row")))) (sRet (e2 eqD (eLenP 0 (.fld (.slot 0) "rows")) (eC (.int (16))))) (sNil)) (sSeq (sIf (bV (e2 eqD (eVar 1) (eC (.str "kernel")))) (sRet (e2 eqD (eLenP 0 (.fld (.slot 0) "rows")) (eC (.int (4))))) (sNil)) (sRet (vAnd (e2 inD (eVar 1) (eC (.tup [.str "dense", .str "conv", .str "relu", .str "clamp", .str "max", .str "mean", .str "sum", .str "fork"]))) (e2 eqD (eLenP 0 (.fld (.idx (.fld (.slot 0) "parts") (-1)) "layers")) (eC (.int (12)))))))
def m_Reader_is_full := runA 2 2 b_Reader_is_full
def b_Reader_add_row : MS := sSeq (sSet 4 (e2 subD (eB lenD (aCons (eVar 3) (aNil))) (eC (.int (1))))) (sSeq (sSet 5 (eP 0 (.fld (.idx (.fld (.slot 0) "parts") (-1)) "length"))) (sSeq (sIf (bOr (bV (e2 gtD (eVar 4) (eVar 5))) (bAnd (bV (e2 eqD (eVar 2) (eC (.str "row")))) (bV (e2 ltD (eVar 4) (eVar 5))))) (sRaise2 "BadNet" "line" "reason" (aCons (eVar 1) (aCons (eC (.str "wrong length")) (aNil)))) (sNil)) (sSeq (sIf (bAnd (bV (e2 gtD (eLenP 0 (.fld (.slot 0) "rows")) (eC (.int (0))))) (bV (e2 neD (eB lenD (aCons (eP 0 (.idx (.fld (.slot 0) "rows") (0))) (aNil))) (eVar 4)))) (sRaise2 "BadNet" "line" "reason" (aCons (eVar 1) (aCons (eC (.str "wrong length")) (aNil)))) (sNil)) (sSeq (sPapp 0 (.fld (.slot 0) "rows") (fOf (aCons (eSl (eVar 3) (pNo) (pSo (e1 negD (eC (.int (1)))))) (aNil)))) (sSeq (sPapp 0 (.fld (.slot 0) "biases") (fOf (aCons (eIxV 3 (e1 negD (eC (.int (1))))) (aNil)))) (sPset 0 (.slot 0) "Reader" "row_line" (eVar 1)))))))
def m_Reader_add_row := runA 6 4 b_Reader_add_row
def b_Part___init__ : MS := sSeq (sPset 0 (.slot 0) "Part" "inputs" (eVar 1)) (sSeq (sPsetL 0 (.slot 0) "Part" "layers" (oLst (aNil))) (sPset 0 (.slot 0) "Part" "length" (eVar 1)))
def m_Part___init__ := runA 2 2 b_Part___init__
def b_Reader_end_branches : MS := sSeq (sPopP 2 0 (.fld (.slot 0) "parts")) (sSeq (sPopP 3 0 (.fld (.slot 0) "parts")) (sSeq (sIf (bAnd (bV (e2 eqD (eP 0 (.fld (.slot 0) "branching")) (eC (.str "sum")))) (bV (e2 neD (eP 0 (.fld (.slot 3) "length")) (eP 0 (.fld (.slot 2) "length"))))) (sRaise2 "BadNet" "line" "reason" (aCons (eVar 1) (aCons (eC (.str "wrong length")) (aNil)))) (sNil)) (sSeq (sSet 4 (eTup (aCons (eP 0 (.fld (.slot 0) "branching")) (aCons (eTupP 0 (.fld (.slot 3) "layers")) (aCons (eTupP 0 (.fld (.slot 2) "layers")) (aNil)))))) (sExpr (eMethS m_Part_add_layer 0 (.idx (.fld (.slot 0) "parts") (0)) "Part" "add_layer" (fPs 0 [.slot 1, .slot 4]))))))
def m_Reader_end_branches := runA 5 2 b_Reader_end_branches
def b_Reader_add_plain : MS := sSeq (sAli 3 0 (.idx (.fld (.slot 0) "parts") (-1))) (sSeq (sIf (bAnd (bV (e2 inD (eIxV 2 (eC (.int (0)))) (eTup (aCons (eC (.str "max")) (aCons (eC (.str "mean")) (aNil)))))) (bV (e2 neD (e2 modD (eP 0 (.fld (.slot 3) "length")) (eIxV 2 (eC (.int (1))))) (eC (.int (0)))))) (sRaise2 "BadNet" "line" "reason" (aCons (eVar 1) (aCons (eC (.str "wrong length")) (aNil)))) (sNil)) (sExpr (eMethS m_Part_add_layer 0 (.slot 3) "Part" "add_layer" (fPs 0 [.slot 1, .slot 2]))))
def m_Reader_add_plain := runA 4 3 b_Reader_add_plain
def b_Reader_add_line : MS := sIf (bV (e2 inD (eVar 2) (eTup (aCons (eC (.str "row")) (aCons (eC (.str "kernel")) (aNil)))))) (sExpr (eMethA m_Reader_add_row 0 "Reader" "add_row" (aCons (eVar 1) (aCons (eVar 2) (aCons (eVar 3) (aNil)))))) (sIf (bV (e1 (inTabD ["dense", "conv"]) (eVar 2))) (sPset 0 (.slot 0) "Reader" "head" (e2 addD (eTup (aCons (eVar 2) (aNil))) (eVar 3))) (sIf (bV (e2 inD (eVar 2) (eTup (aCons (eC (.str "sum")) (aCons (eC (.str "fork")) (aNil)))))) (sSeq (sPset 0 (.slot 0) "Reader" "branching" (eVar 2)) (sPappN 0 (.fld (.slot 0) "parts") "Part" m_Part___init__ (fPs 0 [.fld (.idx (.fld (.slot 0) "parts") (0)) "length"]))) (sIf (bV (e2 eqD (eVar 2) (eC (.str "with")))) (sPappN 0 (.fld (.slot 0) "parts") "Part" m_Part___init__ (fPs 0 [.fld (.idx (.fld (.slot 0) "parts") (0)) "length"])) (sIf (bV (e2 eqD (eVar 2) (eC (.str "end")))) (sExpr (eMethA m_Reader_end_branches 0 "Reader" "end_branches" (aCons (eVar 1) (aNil)))) (sIf (bV (e2 eqD (eVar 2) (eC (.str "done")))) (sPset 0 (.slot 0) "Reader" "is_done" (eC (.bl true))) (sExpr (eMethA m_Reader_add_plain 0 "Reader" "add_plain" (aCons (eVar 1) (aCons (e2 addD (eTup (aCons (eVar 2) (aNil))) (eVar 3)) (aNil))))))))))
def m_Reader_add_line := runA 4 4 b_Reader_add_line
def b_Reader_read_first : MS := sSeq (sIf (bOr (bV (e2 neD (eIxV 2 (eC (.int (0)))) (eC (.str "net")))) (bV (e2 neD (eB lenD (aCons (eVar 2) (aNil))) (e1 (tabD [("net", .int (2)), ("dense", .int (1)), ("row", .int (4)), ("conv", .int (2)), ("kernel", .int (4)), ("relu", .int (1)), ("clamp", .int (3)), ("max", .int (2)), ("mean", .int (2)), ("sum", .int (1)), ("with", .int (1)), ("fork", .int (1)), ("end", .int (1)), ("done", .int (1))]) (eC (.str "net")))))) (sRaise2 "BadNet" "line" "reason" (aCons (eVar 1) (aCons (eC (.str "net expected")) (aNil)))) (sNil)) (sPappN 0 (.fld (.slot 0) "parts") "Part" m_Part___init__ (fOf (aCons (e2 ixD (eCall m_numbers_of (aCons (eVar 1) (aCons (eVar 2) (aNil)))) (eC (.int (0)))) (aNil))))
def m_Reader_read_first := runA 3 3 b_Reader_read_first
def b_Reader_is_own : MS := sRet (vAnd (e2 neD (eP 0 (.fld (.slot 0) "head")) (eTup (aNil))) (e2 eqD (e1 (tabD [("dense", .str "row"), ("conv", .str "kernel")]) (e2 ixD (eP 0 (.fld (.slot 0) "head")) (eC (.int (0))))) (eVar 1)))
def m_Reader_is_own := runA 2 2 b_Reader_is_own
def b_Reader_is_in_place : MS := sSeq (sIf (bV (eP 0 (.fld (.slot 0) "is_done"))) (sRet (eC (.bl false))) (sNil)) (sSeq (sIf (bV (e2 neD (eP 0 (.fld (.slot 0) "head")) (eTup (aNil)))) (sRet (eMethA m_Reader_is_own 0 "Reader" "is_own" (aCons (eVar 1) (aNil)))) (sNil)) (sSeq (sIf (bV (e2 inD (eVar 1) (eTup (aCons (eC (.str "sum")) (aCons (eC (.str "fork")) (aCons (eC (.str "done")) (aNil))))))) (sRet (e2 eqD (eLenP 0 (.fld (.slot 0) "parts")) (eC (.int (1))))) (sNil)) (sSeq (sIf (bV (e2 eqD (eVar 1) (eC (.str "with")))) (sRet (e2 eqD (eLenP 0 (.fld (.slot 0) "parts")) (eC (.int (2))))) (sNil)) (sSeq (sIf (bV (e2 eqD (eVar 1) (eC (.str "end")))) (sRet (e2 eqD (eLenP 0 (.fld (.slot 0) "parts")) (eC (.int (3))))) (sNil)) (sRet (e2 inD (eVar 1) (eC (.tup [.str "dense", .str "conv", .str "relu", .str "clamp", .str "max", .str "mean", .str "sum", .str "fork"]))))))))
def m_Reader_is_in_place := runA 2 2 b_Reader_is_in_place
def b_Reader_read_line : MS := sSeq (sIf (bV (e2 eqD (eLenP 0 (.fld (.slot 0) "parts")) (eC (.int (0))))) (sSeq (sExpr (eMethA m_Reader_read_first 0 "Reader" "read_first" (aCons (eVar 1) (aCons (eVar 2) (aNil))))) (sRetN)) (sNil)) (sSeq (sIf (bNot (bV (eMethA m_Reader_is_own 0 "Reader" "is_own" (aCons (eIxV 2 (eC (.int (0)))) (aNil))))) (sExpr (eMethA m_Reader_end_rows 0 "Reader" "end_rows" aNil)) (sNil)) (sSeq (sIf (bV (e1 (niTabD ["net", "dense", "row", "conv", "kernel", "relu", "clamp", "max", "mean", "sum", "with", "fork", "end", "done"]) (eIxV 2 (eC (.int (0)))))) (sRaise2 "BadNet" "line" "reason" (aCons (eVar 1) (aCons (eC (.str "unknown word")) (aNil)))) (sNil)) (sSeq (sIf (bNot (bV (eMethA m_Reader_is_in_place 0 "Reader" "is_in_place" (aCons (eIxV 2 (eC (.int (0)))) (aNil))))) (sRaise2 "BadNet" "line" "reason" (aCons (eVar 1) (aCons (eC (.str "word out of place")) (aNil)))) (sNil)) (sSeq (sIf (bNot (bV (eCall m_is_count_right (aCons (eVar 2) (aNil))))) (sRaise2 "BadNet" "line" "reason" (aCons (eVar 1) (aCons (eC (.str "wrong number of words")) (aNil)))) (sNil)) (sSeq (sSet 3 (eCall m_numbers_of (aCons (eVar 1) (aCons (eVar 2) (aNil))))) (sSeq (sIf (bV (eMethA m_Reader_is_full 0 "Reader" "is_full" (aCons (eIxV 2 (eC (.int (0)))) (aNil)))) (sRaise2 "BadNet" "line" "reason" (aCons (eVar 1) (aCons (eC (.str "too many parts")) (aNil)))) (sNil)) (sExpr (eMethA m_Reader_add_line 0 "Reader" "add_line" (aCons (eVar 1) (aCons (eIxV 2 (eC (.int (0)))) (aCons (eVar 3) (aNil))))))))))))
def m_Reader_read_line := runA 4 3 b_Reader_read_line
def b_parse : MS := sSeq (sIf (bV (e2 gtD (eB lenTD (aCons (eVar 0) (aNil))) (eC (.int (60000))))) (sRaise2 "BadNet" "line" "reason" (aCons (eC (.int (1))) (aCons (eC (.str "text too long")) (aNil)))) (sNil)) (sSeq (sSet 1 (eSM splitD (eVar 0) (eC (.str "\n")))) (sSeq (sFor (mLast (aCons (eVar 1) (aNil)) enumD) (gT 2 (gsCons (gN 2) (gsCons (gN 3) (gsNil)))) (sIf (bNot (bV (eAll true (mLast (eVar 3) asStr) (gN 6) (([("sign", 6)] : List (PySem.Str × Nat)).map (·.2)) (eCall m_is_allowed (aCons (eVar 6) (aNil)))))) (sRaise2 "BadNet" "line" "reason" (aCons (e2 addD (eVar 2) (eC (.int (1)))) (aCons (eC (.str "character not allowed")) (aNil)))) (sNil))) (sSeq (sMakeR 4 "Reader" m_Reader___init__) (sSeq (sFor (mLast (aCons (eVar 1) (aNil)) enumD) (gT 2 (gsCons (gN 2) (gsCons (gN 3) (gsNil)))) (sSeq (sSet 5 (eCall m_words_of (aCons (eVar 3) (aNil)))) (sIf (bV (e2 gtD (eB lenD (aCons (eVar 5) (aNil))) (eC (.int (0))))) (sExpr (eMethA m_Reader_read_line 4 "Reader" "read_line" (aCons (e2 addD (eVar 2) (eC (.int (1)))) (aCons (eVar 5) (aNil))))) (sNil)))) (sRet (eMethA m_Reader_ended 4 "Reader" "ended" (aCons (eB lenD (aCons (eVar 1) (aNil))) (aNil))))))))
def m_parse := runP 7 1 b_parse
def b__law_cell : MS := sSeq (sIf (bV (e2 ltD (eVar 1) (eB lenD (aCons (eVar 0) (aNil))))) (sRet (eIxV 0 (eVar 1))) (sNil)) (sRet (eC (.int (0))))
def m__law_cell := runP 2 2 b__law_cell
def b__law_digits : MS := sSeq (sOwn 3 (oLst (aNil))) (sSeq (sFor (mLast (aCons (eVar 1) (aCons (eVar 2) (aNil))) rng2) (gN 4) (sSeq (sSet 5 (eCall m__law_cell (aCons (eVar 0) (aCons (eVar 4) (aNil))))) (sSeq (sIf (bV (e2 ltD (eVar 5) (eC (.int (0))))) (sSet 5 (e2 subD (eC (.int (1))) (e2 mulD (eC (.int (2))) (eVar 5)))) (sNil)) (sIf (bV (e2 geD (eVar 5) (e2 powD (eC (.int (10))) (eC (.int (18)))))) (sFor (mLast (aCons (eC (.int (60))) (aNil)) rng1) (gN 6) (sIf (bV (e2 gtD (eVar 5) (eC (.int (0))))) (sSeq (sApp 3 (e2 modD (eB intD (aCons (eVar 5) (aNil))) (eC (.int (1000))))) (sSet 5 (e2 fdivD (eVar 5) (eC (.int (1000)))))) (sNil))) (sSeq (sSet 7 (e2 modD (eB intD (aCons (e2 addD (e2 addD (e2 mulD (eVar 5) (eC (.int (48271)))) (e2 mulD (eVar 4) (eC (.int (69621))))) (eC (.int (11)))) (aNil))) (eC (.int (2147483647))))) (sFor (mLast (aCons (eC (.int (12))) (aNil)) rng1) (gN 6) (sSeq (sSet 7 (e2 modD (eB intD (aCons (e2 addD (e2 addD (e2 mulD (eVar 7) (eC (.int (16807)))) (e2 mulD (eC (.int (7))) (eVar 6))) (eC (.int (1)))) (aNil))) (eC (.int (2147483647))))) (sApp 3 (e2 modD (eB intD (aCons (e2 fdivD (eVar 7) (eC (.int (997)))) (aNil))) (eC (.int (1000)))))))))))) (sRet (eVar 3)))
def m__law_digits := runP 8 3 b__law_digits
def b__law_draw : MS := sSeq (sSet 2 (eIxV 0 (eC (.int (1))))) (sSeq (sAsg (e2 addD (eVar 2) (eC (.int (1)))) (gIx 0 (eC (.int (1))))) (sSeq (sIf (bV (e2 ltD (eVar 2) (eB lenD (aCons (eIxV 0 (eC (.int (0)))) (aNil))))) (sRet (e2 modD (eB intD (aCons (e2 ixD (eIxV 0 (eC (.int (0)))) (eVar 2)) (aNil))) (eVar 1))) (sNil)) (sRet (eC (.int (0))))))
def m__law_draw := runB 3 2 b__law_draw
def b__law_read : MS := sSeq (sTryG (sSet 1 (eCall m_parse (aCons (eVar 0) (aNil)))) 2 ["BadNet"] (hdL [("BadNet", fun fs => sSeq (sIfQ (bOr (bNot (bV (eIsC true))) (bOr (bNot (bV (eIsC true))) (bV (eB isiD (aCons (eFld fs "line") (aCons (eC (.ty "bool")) (aNil))))))) (sRetQ (eTup (aCons (eC (.str "other")) (aNil)))) (sNil)) (sRetQ (eTup (aCons (eFld fs "line") (aCons (eFld fs "reason") (aNil))))))])) (sRet (eVar 1))
def m__law_read := runP 3 1 b__law_read
def b__law_places : MS := sSeq (sSet 0 (eC (.str "word out of place"))) (sSeq (sSet 1 (oE (oLst (aCons (oE (oLst (aCons (eC (.str "net 2")) (aCons (eVar 0) (aNil))))) (aCons (oE (oLst (aCons (eC (.str "row 1 2 bias 3")) (aCons (eVar 0) (aNil))))) (aCons (oE (oLst (aCons (eC (.str "kernel 1 bias 3")) (aCons (eVar 0) (aNil))))) (aCons (oE (oLst (aCons (eC (.str "with")) (aCons (eVar 0) (aNil))))) (aCons (oE (oLst (aCons (eC (.str "end")) (aCons (eVar 0) (aNil))))) (aCons (oE (oLst (aCons (eC (.str "relus")) (aCons (eC (.str "unknown word")) (aNil))))) (aNil)))))))))) (sSeq (sSet 1 (e2 addD (eVar 1) (oE (oLst (aCons (oE (oLst (aCons (eC (.str "Relu")) (aCons (eC (.str "unknown word")) (aNil))))) (aCons (oE (oLst (aCons (eC (.str "7")) (aCons (eC (.str "unknown word")) (aNil))))) (aCons (oE (oLst (aCons (eC (.str "-")) (aCons (eC (.str "unknown word")) (aNil))))) (aCons (oE (oLst (aCons (eC (.str "done done")) (aCons (eC (.str "wrong number of words")) (aNil))))) (aNil))))))))) (sRet (eVar 1))))
def m__law_places := runP 2 0 b__law_places
def b__law_counts : MS := sSeq (sSet 0 (eC (.str "wrong number of words"))) (sSeq (sSet 1 (oE (oLst (aCons (oE (oLst (aCons (eC (.str "dense 2")) (aCons (eVar 0) (aNil))))) (aCons (oE (oLst (aCons (eC (.str "conv")) (aCons (eVar 0) (aNil))))) (aCons (oE (oLst (aCons (eC (.str "conv 1 2")) (aCons (eVar 0) (aNil))))) (aCons (oE (oLst (aCons (eC (.str "relu 0")) (aCons (eVar 0) (aNil))))) (aCons (oE (oLst (aCons (eC (.str "clamp 1")) (aCons (eVar 0) (aNil))))) (aCons (oE (oLst (aCons (eC (.str "clamp 1 2 3")) (aCons (eVar 0) (aNil))))) (aCons (oE (oLst (aCons (eC (.str "max")) (aCons (eVar 0) (aNil))))) (aNil))))))))))) (sSeq (sSet 1 (e2 addD (eVar 1) (oE (oLst (aCons (oE (oLst (aCons (eC (.str "mean 1 2")) (aCons (eVar 0) (aNil))))) (aCons (oE (oLst (aCons (eC (.str "sum 1")) (aCons (eVar 0) (aNil))))) (aCons (oE (oLst (aCons (eC (.str "fork ()")) (aCons (eVar 0) (aNil))))) (aNil)))))))) (sRet (eVar 1))))
def m__law_counts := runP 2 0 b__law_counts
def b__law_numbers : MS := sSeq (sSet 0 (eC (.str "not a number"))) (sSeq (sSet 1 (eC (.str "number out of range"))) (sSeq (sSet 2 (oE (oLst (aCons (oE (oLst (aCons (eC (.str "clamp 01 2")) (aCons (eVar 0) (aNil))))) (aCons (oE (oLst (aCons (eC (.str "clamp 1 +2")) (aCons (eVar 0) (aNil))))) (aCons (oE (oLst (aCons (eC (.str "clamp -0 1")) (aCons (eVar 0) (aNil))))) (aCons (oE (oLst (aCons (eC (.str "clamp 1 1.0")) (aCons (eVar 0) (aNil))))) (aCons (oE (oLst (aCons (eC (.str "clamp a b")) (aCons (eVar 0) (aNil))))) (aCons (oE (oLst (aCons (eC (.str "clamp - 1")) (aCons (eVar 0) (aNil))))) (aNil)))))))))) (sSeq (sSet 2 (e2 addD (eVar 2) (oE (oLst (aCons (oE (oLst (aCons (eC (.str "clamp 1 1234567890")) (aCons (eVar 0) (aNil))))) (aCons (oE (oLst (aCons (eC (.str "clamp 2 1")) (aCons (eVar 1) (aNil))))) (aCons (oE (oLst (aCons (eC (.str "clamp 16777217 x")) (aCons (eVar 1) (aNil))))) (aCons (oE (oLst (aCons (eC (.str "clamp x 16777217")) (aCons (eVar 0) (aNil))))) (aNil))))))))) (sSeq (sSet 2 (e2 addD (eVar 2) (oE (oLst (aCons (oE (oLst (aCons (eC (.str "clamp -16777217 0")) (aCons (eVar 1) (aNil))))) (aCons (oE (oLst (aCons (eC (.str "max 0")) (aCons (eVar 1) (aNil))))) (aCons (oE (oLst (aCons (eC (.str "max -1")) (aCons (eVar 1) (aNil))))) (aCons (oE (oLst (aCons (eC (.str "mean 3")) (aCons (eVar 1) (aNil))))) (aCons (oE (oLst (aCons (eC (.str "mean 128")) (aCons (eVar 1) (aNil))))) (aCons (oE (oLst (aCons (eC (.str "mean x")) (aCons (eVar 0) (aNil))))) (aNil))))))))))) (sSeq (sSet 2 (e2 addD (eVar 2) (oE (oLst (aCons (oE (oLst (aCons (eC (.str "conv 0")) (aCons (eVar 1) (aNil))))) (aCons (oE (oLst (aCons (eC (.str "conv 65")) (aCons (eVar 1) (aNil))))) (aCons (oE (oLst (aCons (eC (.str "conv -2")) (aCons (eVar 1) (aNil))))) (aCons (oE (oLst (aCons (eC (.str "conv one")) (aCons (eVar 0) (aNil))))) (aCons (oE (oLst (aCons (eC (.str "mean 0")) (aCons (eVar 1) (aNil))))) (aNil)))))))))) (sRet (eVar 2)))))))
def m__law_numbers := runP 3 0 b__law_numbers
def b__law_rows : MS := sSeq (sSet 0 (eC (.str "wrong number of words"))) (sSeq (sSet 1 (oE (oLst (aCons (oE (oLst (aCons (eC (.str "row")) (aCons (eVar 0) (aNil))))) (aCons (oE (oLst (aCons (eC (.str "row 1 2 3")) (aCons (eVar 0) (aNil))))) (aCons (oE (oLst (aCons (eC (.str "row bias 3")) (aCons (eVar 0) (aNil))))) (aCons (oE (oLst (aCons (eC (.str "row 1 2 bias")) (aCons (eVar 0) (aNil))))) (aCons (oE (oLst (aCons (eC (.str "row 1 2 bias 3 4")) (aCons (eVar 0) (aNil))))) (aNil))))))))) (sSeq (sSet 1 (e2 addD (eVar 1) (oE (oLst (aCons (oE (oLst (aCons (eC (.str "row 1 x bias 3")) (aCons (eC (.str "not a number")) (aNil))))) (aCons (oE (oLst (aCons (eC (.str "row 1048577 2 bias 3")) (aCons (eC (.str "number out of range")) (aNil))))) (aNil))))))) (sSeq (sSet 1 (e2 addD (eVar 1) (oE (oLst (aCons (oE (oLst (aCons (eC (.str "row 1 2 bias -1048577")) (aCons (eC (.str "number out of range")) (aNil))))) (aCons (oE (oLst (aCons (eC (.str "row 1 2 bias x")) (aCons (eC (.str "not a number")) (aNil))))) (aCons (oE (oLst (aCons (eC (.str "row 1 bias 2")) (aCons (eC (.str "wrong length")) (aNil))))) (aNil)))))))) (sSeq (sSet 1 (e2 addD (eVar 1) (oE (oLst (aCons (oE (oLst (aCons (eC (.str "row 1 2 3 bias 4")) (aCons (eC (.str "wrong length")) (aNil))))) (aCons (oE (oLst (aCons (eC (.str "kernel 1 bias 1")) (aCons (eC (.str "word out of place")) (aNil))))) (aCons (oE (oLst (aCons (eC (.str "relu")) (aCons (eC (.str "word out of place")) (aNil))))) (aNil)))))))) (sRet (e2 addD (eVar 1) (oE (oLst (aCons (oE (oLst (aCons (eC (.str "done")) (aCons (eC (.str "word out of place")) (aNil))))) (aCons (oE (oLst (aCons (eC (.str "sum")) (aCons (eC (.str "word out of place")) (aNil))))) (aCons (oE (oLst (aCons (eC (.str "end")) (aCons (eC (.str "word out of place")) (aNil))))) (aNil))))))))))))
def m__law_rows := runP 2 0 b__law_rows
def b__law_kernels : MS := sSeq (sSet 0 (oE (oLst (aCons (oE (oLst (aCons (eC (.str "kernel 1 2 3 bias 0")) (aCons (eC (.str "wrong length")) (aNil))))) (aCons (oE (oLst (aCons (eC (.str "row 1 bias 2")) (aCons (eC (.str "word out of place")) (aNil))))) (aCons (oE (oLst (aCons (eC (.str "kernel bias 0")) (aCons (eC (.str "wrong number of words")) (aNil))))) (aNil))))))) (sRet (e2 addD (eVar 0) (oE (oLst (aCons (oE (oLst (aCons (eC (.str "max 1")) (aCons (eC (.str "word out of place")) (aNil))))) (aCons (oE (oLst (aCons (eC (.str "kernel 1 2 bias y")) (aCons (eC (.str "not a number")) (aNil))))) (aNil)))))))
def m__law_kernels := runP 1 0 b__law_kernels
def b__law_ahead : MS := sSeq (sIf (bV (e2 eqD (eVar 1) (eC (.int (0))))) (sRet (oE (oLst (aCons (eSl (oE (oLst (aCons (eC (.str "relu")) (aCons (eC (.str "clamp -5 5")) (aCons (eC (.str "dense")) (aCons (eC (.str "row 1 2 bias 3")) (aCons (eC (.str "row 0 0 bias 0")) (aNil)))))))) (pNo) (pSo (eCallB m__law_draw 0 (aCons (eC (.int (3))) (aNil))))) (aCons (e2 addD (eCall m__law_places (aNil)) (eCall m__law_counts (aNil))) (aCons (eC (.str "relu")) (aNil))))))) (sNil)) (sSeq (sIf (bV (e2 eqD (eVar 1) (eC (.int (1))))) (sRet (oE (oLst (aCons (eSl (oE (oLst (aCons (eC (.str "mean 1")) (aCons (eC (.str "relu")) (aNil))))) (pNo) (pSo (eCallB m__law_draw 0 (aCons (eC (.int (3))) (aNil))))) (aCons (eCall m__law_numbers (aNil)) (aCons (eC (.str "max 2")) (aNil))))))) (sNil)) (sSeq (sIf (bV (e2 eqD (eVar 1) (eC (.int (2))))) (sRet (oE (oLst (aCons (oE (oLst (aCons (eC (.str "dense")) (aNil)))) (aCons (eCall m__law_rows (aNil)) (aCons (eC (.str "row 1048576 -1048576 bias 0")) (aNil))))))) (sNil)) (sSeq (sIf (bV (e2 eqD (eVar 1) (eC (.int (3))))) (sRet (oE (oLst (aCons (oE (oLst (aCons (eC (.str "conv 1")) (aNil)))) (aCons (eCall m__law_kernels (aNil)) (aCons (eC (.str "kernel 1 2 bias 0")) (aNil))))))) (sNil)) (sSeq (sIf (bV (e2 eqD (eVar 1) (eC (.int (4))))) (sSeq (sSet 2 (oE (oLst (aCons (oE (oLst (aCons (eC (.str "sum")) (aCons (eC (.str "word out of place")) (aNil))))) (aCons (oE (oLst (aCons (eC (.str "fork")) (aCons (eC (.str "word out of place")) (aNil))))) (aCons (oE (oLst (aCons (eC (.str "done")) (aCons (eC (.str "word out of place")) (aNil))))) (aCons (oE (oLst (aCons (eC (.str "end")) (aCons (eC (.str "word out of place")) (aNil))))) (aNil)))))))) (sRet (oE (oLst (aCons (oE (oLst (aCons (eC (.str "sum")) (aCons (eC (.str "relu")) (aNil))))) (aCons (eVar 2) (aCons (eC (.str "with")) (aNil)))))))) (sNil)) (sSeq (sSet 2 (oE (oLst (aCons (oE (oLst (aCons (eC (.str "with")) (aCons (eC (.str "word out of place")) (aNil))))) (aCons (oE (oLst (aCons (eC (.str "fork")) (aCons (eC (.str "word out of place")) (aNil))))) (aCons (oE (oLst (aCons (eC (.str "end")) (aCons (eC (.str "wrong length")) (aNil))))) (aCons (oE (oLst (aCons (eC (.str "max 3")) (aCons (eC (.str "wrong length")) (aNil))))) (aNil)))))))) (sRet (oE (oLst (aCons (oE (oLst (aCons (eC (.str "sum")) (aCons (eC (.str "dense")) (aCons (eC (.str "row 1 2 bias 0")) (aCons (eC (.str "with")) (aNil))))))) (aCons (eVar 2) (aCons (eC (.str "max 2")) (aNil))))))))))))
def m__law_ahead := runB 3 2 b__law_ahead
def b__law_ends : MS := sSeq (sSet 1 (oE (oLst (aCons (eC (.str "net 2")) (aCons (eC (.str "relu")) (aCons (eC (.str "dense")) (aCons (eC (.str "row 1 2 bias 3")) (aCons (eC (.str "done")) (aNil))))))))) (sSeq (sSet 2 (eCallB m__law_draw 0 (aCons (eC (.int (5))) (aNil)))) (sSeq (sSet 3 (eJoinS "\n" (eSl (eVar 1) (pNo) (pSo (eVar 2))))) (sSeq (sSet 4 (eTup (aCons (eB maxD (aCons (eVar 2) (aCons (eC (.int (1))) (aNil)))) (aCons (eC (.str "done expected")) (aNil))))) (sSeq (sSet 5 (eCallB m__law_draw 0 (aCons (eC (.int (5))) (aNil)))) (sSeq (sIf (bV (e2 eqD (eVar 5) (eC (.int (0))))) (sRet (e2 eqD (eCall m__law_read (aCons (e2 addD (eVar 3) (eC (.str "\n"))) (aNil))) (eTup (aCons (e2 addD (e2 addD (eIxV 4 (eC (.int (0)))) (eB intD (aCons (e2 gtD (eVar 2) (eC (.int (0)))) (aNil)))) (eB intD (aCons (e2 eqD (eVar 2) (eC (.int (0)))) (aNil)))) (aCons (eC (.str "done expected")) (aNil)))))) (sNil)) (sSeq (sIf (bV (e2 eqD (eVar 5) (eC (.int (1))))) (sRet (e2 eqD (eCall m__law_read (aCons (eC (.str "net 2\ndone\n\n#\nrelu")) (aNil))) (eTup (aCons (eC (.int (5))) (aCons (eC (.str "word out of place")) (aNil)))))) (sNil)) (sSeq (sIf (bV (e2 eqD (eVar 5) (eC (.int (2))))) (sRet (e2 eqD (eCall m__law_read (aCons (e2 addD (e2 mulYD (eC (.str "\n")) (eVar 2)) (e2 ixD (oE (oLst (aCons (eC (.str "net")) (aCons (eC (.str "net 2 3")) (aCons (eC (.str "dense")) (aCons (eC (.str "nets 2")) (aNil))))))) (eCallB m__law_draw 0 (aCons (eC (.int (4))) (aNil))))) (aNil))) (eTup (aCons (e2 addD (eVar 2) (eC (.int (1)))) (aCons (eC (.str "net expected")) (aNil)))))) (sNil)) (sSeq (sIf (bV (e2 eqD (eVar 5) (eC (.int (3))))) (sRet (e2 eqD (eCall m__law_read (aCons (e2 addD (e2 addD (e2 addD (eC (.str "net 2\n")) (e2 mulYD (eC (.str "relu\n")) (eVar 2))) (eC (.str "# 	\n"))) (eC (.str "row"))) (aNil))) (eTup (aCons (e2 addD (eVar 2) (eC (.int (2)))) (aCons (eC (.str "character not allowed")) (aNil)))))) (sNil)) (sRet (e2 eqD (eCall m__law_read (aCons (eVar 3) (aNil))) (eVar 4)))))))))))
def m__law_ends := runB 6 1 b__law_ends
def b__law_parts : MS := sSeq (sSet 1 (eCallB m__law_draw 0 (aCons (eC (.int (6))) (aNil)))) (sSeq (sIf (bV (e2 eqD (eVar 1) (eC (.int (0))))) (sRet (e2 eqD (eCall m__law_read (aCons (e2 addD (e2 addD (eC (.str "net 2\n")) (e2 mulYD (eC (.str "relu\n")) (eC (.int (13))))) (eC (.str "done"))) (aNil))) (eTup (aCons (eC (.int (14))) (aCons (eC (.str "too many parts")) (aNil)))))) (sNil)) (sSeq (sIf (bV (e2 eqD (eVar 1) (eC (.int (1))))) (sRet (e2 eqD (eCall m__law_read (aCons (e2 addD (e2 addD (eC (.str "net 2\ndense\n")) (e2 mulYD (eC (.str "row 1 2 bias 3\n")) (eC (.int (17))))) (eC (.str "done"))) (aNil))) (eTup (aCons (eC (.int (19))) (aCons (eC (.str "too many parts")) (aNil)))))) (sNil)) (sSeq (sIf (bV (e2 eqD (eVar 1) (eC (.int (2))))) (sRet (e2 eqD (eCall m__law_read (aCons (e2 addD (e2 addD (eC (.str "net 2\nconv 1\n")) (e2 mulYD (eC (.str "kernel 1 bias 3\n")) (eC (.int (5))))) (eC (.str "done"))) (aNil))) (eTup (aCons (eC (.int (7))) (aCons (eC (.str "too many parts")) (aNil)))))) (sNil)) (sSeq (sIf (bV (e2 eqD (eVar 1) (eC (.int (3))))) (sRet (e2 eqD (eCall m__law_read (aCons (e2 addD (e2 addD (eC (.str "net 9\n")) (e2 mulYD (eC (.str "fork\nwith\nend\n")) (eC (.int (3))))) (eC (.str "done"))) (aNil))) (eTup (aCons (eC (.int (10))) (aCons (eC (.str "wrong length")) (aNil)))))) (sNil)) (sSeq (sIf (bV (e2 eqD (eVar 1) (eC (.int (4))))) (sRet (e2 eqD (eCall m__law_read (aCons (e2 addD (e2 addD (eC (.str "net 16\nconv 1\n")) (e2 mulYD (eC (.str "kernel 1 bias 0\n")) (eC (.int (4))))) (eC (.str "conv 1\nkernel 1 bias 0\nkernel 1 bias 0\nxx"))) (aNil))) (eTup (aCons (eC (.int (9))) (aCons (eC (.str "wrong length")) (aNil)))))) (sNil)) (sSeq (sSet 2 (e2 addD (eC (.int (59998))) (eCallB m__law_draw 0 (aCons (eC (.int (5))) (aNil))))) (sSeq (sSet 3 (eC (.str "net 2\ndone\n"))) (sSeq (sSet 4 (eTup (aCons (eC (.str "net")) (aCons (eC (.int (2))) (aCons (eTup (aNil)) (aNil)))))) (sSeq (sIf (bV (e2 gtD (eVar 2) (eC (.int (60000))))) (sSet 4 (eTup (aCons (eC (.int (1))) (aCons (eC (.str "text too long")) (aNil))))) (sNil)) (sRet (e2 eqD (eCall m__law_read (aCons (e2 addD (eVar 3) (e2 mulYD (eC (.str " ")) (e2 subD (eVar 2) (eB lenD (aCons (eVar 3) (aNil)))))) (aNil))) (eVar 4))))))))))))
def m__law_parts := runB 5 1 b__law_parts
def b_law : MS := sSeq (sOwn 1 (oLst (aCons (eCall m__law_digits (aCons (eVar 0) (aCons (eC (.int (0))) (aCons (eC (.int (63))) (aNil))))) (aCons (eC (.int (0))) (aNil))))) (sSeq (sSet 2 (eCallB m__law_ahead 1 (aCons (eCallB m__law_draw 1 (aCons (eC (.int (6))) (aNil))) (aNil)))) (sSeq (sOwn 3 (oAdd (eSl (oE (oLst (aCons (eC (.str "")) (aCons (eC (.str "# 2")) (aCons (eC (.str " ")) (aNil)))))) (pNo) (pSo (eCallB m__law_draw 1 (aCons (eC (.int (4))) (aNil))))) (oE (oLst (aCons (eC (.str "net 2")) (aNil)))))) (sSeq (sFor (mLast (eIxV 2 (eC (.int (0)))) asAny) (gN 4) (sSeq (sApp 3 (eVar 4)) (sIf (bV (e2 eqD (eCallB m__law_draw 1 (aCons (eC (.int (4))) (aNil))) (eC (.int (0))))) (sApp 3 (eC (.str "  # x"))) (sNil)))) (sSeq (sSet 5 (e2 ixD (eIxV 2 (eC (.int (1)))) (e2 modD (eB intD (aCons (eCallB m__law_draw 1 (aCons (eC (.int (900))) (aNil))) (aNil))) (eB lenD (aCons (eIxV 2 (eC (.int (1)))) (aNil)))))) (sSeq (sSet 6 (eJoinS "\n" (e2 addD (eVar 3) (oE (oLst (aCons (eIxV 5 (eC (.int (0)))) (aCons (eC (.str "zz 1")) (aCons (eC (.str "done")) (aNil))))))))) (sSeq (sIf (bV (e2 neD (eCall m__law_read (aCons (eVar 6) (aNil))) (eTup (aCons (e2 addD (eLenV 3) (eC (.int (1)))) (aCons (eIxV 5 (eC (.int (1)))) (aNil)))))) (sRet (eC (.bl false))) (sNil)) (sSeq (sSet 7 (eCall m__law_read (aCons (eJoinS "\n" (e2 addD (eVar 3) (oE (oLst (aCons (eIxV 2 (eC (.int (2)))) (aCons (eC (.str "zz 1")) (aCons (eC (.str "done")) (aNil)))))))) (aNil)))) (sSeq (sIf (bV (e2 neD (eVar 7) (eTup (aCons (e2 addD (eLenV 3) (eC (.int (2)))) (aCons (eC (.str "unknown word")) (aNil)))))) (sRet (eC (.bl false))) (sNil)) (sRet (vAnd (eCallB m__law_ends 1 (aNil)) (eCallB m__law_parts 1 (aNil))))))))))))
def m_law := runP 8 1 b_law
/-! ### the facts of the top -/
structure Tp [Tabs] (w : World) (K : PySem.W.Frag) (mg : PySem.Str → Option Value) (base : Heap) : Prop where
  z_ValueError : mg "ValueError" = none
  z_all : mg "all" = none
  z_bool : mg "bool" = none
  z_enumerate : mg "enumerate" = none
  z_int : mg "int" = none
  z_isinstance : mg "isinstance" = none
  z_len : mg "len" = none
  z_list : mg "list" = none
  z_max : mg "max" = none
  z_ord : mg "ord" = none
  z_range : mg "range" = none
  z_tuple : mg "tuple" = none
  g_KINDS : TupF K mg "KINDS" [.str "dense", .str "conv", .str "relu", .str "clamp", .str "max", .str "mean", .str "sum", .str "fork"]
  g_MEAN_SIZES : TupF K mg "MEAN_SIZES" [.int (1), .int (2), .int (4), .int (8), .int (16), .int (32), .int (64)]
  g_MOST_CHARACTERS : ∃ t, mg "MOST_CHARACTERS" = some (.int (60000) t)
  g_MOST_DIGITS : ∃ t, mg "MOST_DIGITS" = some (.int (9) t)
  g_MOST_INPUTS : ∃ t, mg "MOST_INPUTS" = some (.int (16) t)
  g_MOST_KERNELS : ∃ t, mg "MOST_KERNELS" = some (.int (4) t)
  g_MOST_LAYERS : ∃ t, mg "MOST_LAYERS" = some (.int (12) t)
  g_MOST_LENGTH : ∃ t, mg "MOST_LENGTH" = some (.int (64) t)
  g_MOST_ROWS : ∃ t, mg "MOST_ROWS" = some (.int (16) t)
  g_MOST_SIGNAL : ∃ t, mg "MOST_SIGNAL" = some (.int (16777216) t)
  g_MOST_STRIDE : ∃ t, mg "MOST_STRIDE" = some (.int (64) t)
  g_MOST_WEIGHT : ∃ t, mg "MOST_WEIGHT" = some (.int (1048576) t)
  g_PERCENT : ∃ t, mg "PERCENT" = some (.int (37) t)
  h_ROW_WORDS : TabN K w mg "ROW_WORDS" ["dense", "conv"]
  g_ROW_WORDS : TabF K w mg "ROW_WORDS" [("dense", .str "row"), ("conv", .str "kernel")]
  h_WORDS : TabN K w mg "WORDS" ["net", "dense", "row", "conv", "kernel", "relu", "clamp", "max", "mean", "sum", "with", "fork", "end", "done"]
  g_WORDS : TabF K w mg "WORDS" [("net", .int (2)), ("dense", .int (1)), ("row", .int (4)), ("conv", .int (2)), ("kernel", .int (4)), ("relu", .int (1)), ("clamp", .int (3)), ("max", .int (2)), ("mean", .int (2)), ("sum", .int (1)), ("with", .int (1)), ("fork", .int (1)), ("end", .int (1)), ("done", .int (1))]
  f_clamped : ∃ f fd, FunD K "clamped" "clamped" (defArgs s_clamped) (defBody s_clamped) (defScope s_clamped) [] [] f fd ∧ mg "clamped" = some (Value.ref f)
  f_within : ∃ f fd, FunD K "within" "within" (defArgs s_within) (defBody s_within) (defScope s_within) [] [] f fd ∧ mg "within" = some (Value.ref f)
  f_places : ∃ f fd, FunD K "places" "places" (defArgs s_places) (defBody s_places) (defScope s_places) [] [] f fd ∧ mg "places" = some (Value.ref f)
  f_gives : ∃ f fd, FunD K "gives" "gives" (defArgs s_gives) (defBody s_gives) (defScope s_gives) [] [] f fd ∧ mg "gives" = some (Value.ref f)
  f_last_length : ∃ f fd, FunD K "last_length" "last_length" (defArgs s_last_length) (defBody s_last_length) (defScope s_last_length) [] [] f fd ∧ mg "last_length" = some (Value.ref f)
  f_is_allowed : ∃ f fd, FunD K "is_allowed" "is_allowed" (defArgs s_is_allowed) (defBody s_is_allowed) (defScope s_is_allowed) [] [] f fd ∧ mg "is_allowed" = some (Value.ref f)
  f_words_of : ∃ f fd, FunD K "words_of" "words_of" (defArgs s_words_of) (defBody s_words_of) (defScope s_words_of) [] [] f fd ∧ mg "words_of" = some (Value.ref f)
  f_is_number : ∃ f fd, FunD K "is_number" "is_number" (defArgs s_is_number) (defBody s_is_number) (defScope s_is_number) [] [] f fd ∧ mg "is_number" = some (Value.ref f)
  f_is_count_right : ∃ f fd, FunD K "is_count_right" "is_count_right" (defArgs s_is_count_right) (defBody s_is_count_right) (defScope s_is_count_right) [] [] f fd ∧ mg "is_count_right" = some (Value.ref f)
  f_number_words : ∃ f fd, FunD K "number_words" "number_words" (defArgs s_number_words) (defBody s_number_words) (defScope s_number_words) [] [] f fd ∧ mg "number_words" = some (Value.ref f)
  f_is_in_range : ∃ f fd, FunD K "is_in_range" "is_in_range" (defArgs s_is_in_range) (defBody s_is_in_range) (defScope s_is_in_range) [] [] f fd ∧ mg "is_in_range" = some (Value.ref f)
  f_numbers_of : ∃ f fd, FunD K "numbers_of" "numbers_of" (defArgs s_numbers_of) (defBody s_numbers_of) (defScope s_numbers_of) [] [] f fd ∧ mg "numbers_of" = some (Value.ref f)
  f_parse : ∃ f fd, FunD K "parse" "parse" (defArgs s_parse) (defBody s_parse) (defScope s_parse) [] [] f fd ∧ mg "parse" = some (Value.ref f) ∧ CodT base mg fd
  f__law_cell : ∃ f fd, FunD K "_law_cell" "_law_cell" (defArgs s__law_cell) (defBody s__law_cell) (defScope s__law_cell) [] [] f fd ∧ mg "_law_cell" = some (Value.ref f)
  f__law_digits : ∃ f fd, FunD K "_law_digits" "_law_digits" (defArgs s__law_digits) (defBody s__law_digits) (defScope s__law_digits) [] [] f fd ∧ mg "_law_digits" = some (Value.ref f)
  f__law_draw : ∃ f fd, FunD K "_law_draw" "_law_draw" (defArgs s__law_draw) (defBody s__law_draw) (defScope s__law_draw) [] [] f fd ∧ mg "_law_draw" = some (Value.ref f)
  f__law_read : ∃ f fd, FunD K "_law_read" "_law_read" (defArgs s__law_read) (defBody s__law_read) (defScope s__law_read) [] [] f fd ∧ mg "_law_read" = some (Value.ref f)
  f__law_places : ∃ f fd, FunD K "_law_places" "_law_places" (defArgs s__law_places) (defBody s__law_places) (defScope s__law_places) [] [] f fd ∧ mg "_law_places" = some (Value.ref f)
  f__law_counts : ∃ f fd, FunD K "_law_counts" "_law_counts" (defArgs s__law_counts) (defBody s__law_counts) (defScope s__law_counts) [] [] f fd ∧ mg "_law_counts" = some (Value.ref f)
  f__law_numbers : ∃ f fd, FunD K "_law_numbers" "_law_numbers" (defArgs s__law_numbers) (defBody s__law_numbers) (defScope s__law_numbers) [] [] f fd ∧ mg "_law_numbers" = some (Value.ref f)
  f__law_rows : ∃ f fd, FunD K "_law_rows" "_law_rows" (defArgs s__law_rows) (defBody s__law_rows) (defScope s__law_rows) [] [] f fd ∧ mg "_law_rows" = some (Value.ref f)
  f__law_kernels : ∃ f fd, FunD K "_law_kernels" "_law_kernels" (defArgs s__law_kernels) (defBody s__law_kernels) (defScope s__law_kernels) [] [] f fd ∧ mg "_law_kernels" = some (Value.ref f)
  f__law_ahead : ∃ f fd, FunD K "_law_ahead" "_law_ahead" (defArgs s__law_ahead) (defBody s__law_ahead) (defScope s__law_ahead) [] [] f fd ∧ mg "_law_ahead" = some (Value.ref f)
  f__law_ends : ∃ f fd, FunD K "_law_ends" "_law_ends" (defArgs s__law_ends) (defBody s__law_ends) (defScope s__law_ends) [] [] f fd ∧ mg "_law_ends" = some (Value.ref f)
  f__law_parts : ∃ f fd, FunD K "_law_parts" "_law_parts" (defArgs s__law_parts) (defBody s__law_parts) (defScope s__law_parts) [] [] f fd ∧ mg "_law_parts" = some (Value.ref f)
  f_law : ∃ f fd, FunD K "law" "law" (defArgs s_law) (defBody s_law) (defScope s_law) [] [] f fd ∧ mg "law" = some (Value.ref f)
  f_Part_add_layer : ∃ C f fd, FunD K "add_layer" "Part.add_layer" (defArgs s_Part_add_layer) (defBody s_Part_add_layer) (defScope s_Part_add_layer) [] [] f fd ∧ mg "Part" = some (Value.ref C) ∧ L2.Meth K C "add_layer" f
  f_Reader_read_line : ∃ C f fd, FunD K "read_line" "Reader.read_line" (defArgs s_Reader_read_line) (defBody s_Reader_read_line) (defScope s_Reader_read_line) [] [] f fd ∧ mg "Reader" = some (Value.ref C) ∧ L2.Meth K C "read_line" f
  f_Reader_read_first : ∃ C f fd, FunD K "read_first" "Reader.read_first" (defArgs s_Reader_read_first) (defBody s_Reader_read_first) (defScope s_Reader_read_first) [] [] f fd ∧ mg "Reader" = some (Value.ref C) ∧ L2.Meth K C "read_first" f
  f_Reader_is_own : ∃ C f fd, FunD K "is_own" "Reader.is_own" (defArgs s_Reader_is_own) (defBody s_Reader_is_own) (defScope s_Reader_is_own) [] [] f fd ∧ mg "Reader" = some (Value.ref C) ∧ L2.Meth K C "is_own" f
  f_Reader_is_in_place : ∃ C f fd, FunD K "is_in_place" "Reader.is_in_place" (defArgs s_Reader_is_in_place) (defBody s_Reader_is_in_place) (defScope s_Reader_is_in_place) [] [] f fd ∧ mg "Reader" = some (Value.ref C) ∧ L2.Meth K C "is_in_place" f
  f_Reader_is_full : ∃ C f fd, FunD K "is_full" "Reader.is_full" (defArgs s_Reader_is_full) (defBody s_Reader_is_full) (defScope s_Reader_is_full) [] [] f fd ∧ mg "Reader" = some (Value.ref C) ∧ L2.Meth K C "is_full" f
  f_Reader_add_line : ∃ C f fd, FunD K "add_line" "Reader.add_line" (defArgs s_Reader_add_line) (defBody s_Reader_add_line) (defScope s_Reader_add_line) [] [] f fd ∧ mg "Reader" = some (Value.ref C) ∧ L2.Meth K C "add_line" f
  f_Reader_add_row : ∃ C f fd, FunD K "add_row" "Reader.add_row" (defArgs s_Reader_add_row) (defBody s_Reader_add_row) (defScope s_Reader_add_row) [] [] f fd ∧ mg "Reader" = some (Value.ref C) ∧ L2.Meth K C "add_row" f
  f_Reader_add_plain : ∃ C f fd, FunD K "add_plain" "Reader.add_plain" (defArgs s_Reader_add_plain) (defBody s_Reader_add_plain) (defScope s_Reader_add_plain) [] [] f fd ∧ mg "Reader" = some (Value.ref C) ∧ L2.Meth K C "add_plain" f
  f_Reader_end_rows : ∃ C f fd, FunD K "end_rows" "Reader.end_rows" (defArgs s_Reader_end_rows) (defBody s_Reader_end_rows) (defScope s_Reader_end_rows) [] [] f fd ∧ mg "Reader" = some (Value.ref C) ∧ L2.Meth K C "end_rows" f
  f_Reader_end_branches : ∃ C f fd, FunD K "end_branches" "Reader.end_branches" (defArgs s_Reader_end_branches) (defBody s_Reader_end_branches) (defScope s_Reader_end_branches) [] [] f fd ∧ mg "Reader" = some (Value.ref C) ∧ L2.Meth K C "end_branches" f
  f_Reader_ended : ∃ C f fd, FunD K "ended" "Reader.ended" (defArgs s_Reader_ended) (defBody s_Reader_ended) (defScope s_Reader_ended) [] [] f fd ∧ mg "Reader" = some (Value.ref C) ∧ L2.Meth K C "ended" f
  e_BadNet : ∃ C f fd, ExcH K mg "BadNet" ["line", "reason"] C f ∧ FunD K "__init__" "BadNet.__init__" (defArgs s_init_BadNet) (defBody s_init_BadNet) (defScope s_init_BadNet) [] [] f fd
  c_Part : ∃ C f fd, ClsH K mg "Part" ["inputs", "layers", "length"] ["add_layer"] C f ∧ FunD K "__init__" "Part.__init__" (defArgs s_init_Part) (defBody s_init_Part) (defScope s_init_Part) [] [] f fd
  c_Reader : ∃ C f fd, ClsH K mg "Reader" ["parts", "branching", "head", "rows", "biases", "row_line", "is_done"] ["read_line", "read_first", "is_own", "is_in_place", "is_full", "add_line", "add_row", "add_plain", "end_rows", "end_branches", "ended"] C f ∧ FunD K "__init__" "Reader.__init__" (defArgs s_init_Reader) (defBody s_init_Reader) (defScope s_init_Reader) [] [] f fd
  t_0 : ∃ C D, TryH K mg "BadNet" "NetError" ["line", "reason"] [("BadNet", true)] [("ValueError", true)] C D
section
variable [Tabs] {P : Program} {w : World} {K : PySem.W.Frag} {mg : PySem.Str → Option Value} {base : Heap}
theorem ex_BadNet (T : Tp w K mg base) : ∃ C, ExcF P w K mg base "BadNet" C ["line", "reason"] (sp2 C "line" "reason") := by
  obtain ⟨C, f, fd, H, F⟩ := T.e_BadNet
  exact excF2 H F sc_init_BadNet (F.bindsN fun _ _ _ _ _ _ us hl => match us, hl with | [_, _, _], _ => rfl) (by first | exact Or.inl rfl | exact Or.inr (Or.inl rfl) | exact Or.inr (Or.inr rfl)) (by first | exact Or.inl rfl | exact Or.inr (Or.inl rfl) | exact Or.inr (Or.inr rfl)) (by first | exact Or.inl rfl | exact Or.inr (Or.inl rfl) | exact Or.inr (Or.inr rfl))
theorem no_Part (T : Tp w K mg base) : ∀ f ∈ (["inputs", "layers", "length"] : List PySem.Str), ∀ C, mg "Part" = some (Value.ref C) → L2.NoAttr K C f := by
  intro f hf C e
  obtain ⟨C0, f0, fd, H, F⟩ := T.c_Part
  rw [H.at_] at e
  cases e
  exact H.no f hf
theorem no_Reader (T : Tp w K mg base) : ∀ f ∈ (["parts", "branching", "head", "rows", "biases", "row_line", "is_done"] : List PySem.Str), ∀ C, mg "Reader" = some (Value.ref C) → L2.NoAttr K C f := by
  intro f hf C e
  obtain ⟨C0, f0, fd, H, F⟩ := T.c_Reader
  rw [H.at_] at e
  cases e
  exact H.no f hf
theorem body_clamped (T : Tp w K mg base) : Body P w K mg base n_clamped "clamped" (defScope s_clamped) [] (defBody s_clamped) 0 b_clamped := by
  intro f cdv A outer s H E c
  delta b_clamped
  exact lss_cons (ls_if (lt_cmp op2_gt (lv 0) (lv 1) (nomark _)) (lss_one (ls_ret (lv 1))) (lss_nil)) (lss_cons (ls_if (lt_cmp op2_lt (lv 0) (le_un op1_neg (lv 1)) (nomark _)) (lss_one (ls_ret (le_un op1_neg (lv 1)))) (lss_nil)) (lss_one (ls_ret (lv 0))))
theorem fn_clamped (T : Tp w K mg base) : FnN P w K mg base 1 "clamped" p_clamped (spP K mg m_clamped) := by
  obtain ⟨f, fd, F, hm⟩ := T.f_clamped
  exact fnN_of hm F.kp  (F.bindsN fun _ _ _ _ _ _ us hl => match us, hl with | [_, _], _ => rfl) (okDP F sc_clamped b_clamped (body_clamped T))
theorem body_within (T : Tp w K mg base) : Body P w K mg base n_within "within" (defScope s_within) [] (defBody s_within) 1 b_within := by
  intro f cdv A outer s H E c
  delta b_within
  exact lss_one (ls_ret (le_cmp (op2_eq ⟨_, c.hr⟩) (le_call (fn_clamped T) c (by decide) (by rfl) (la_cons (lv 0) (la_cons (lv 1) (la_nil)))) (lv 0) (nomark _)))
theorem fn_within (T : Tp w K mg base) : FnN P w K mg base 2 "within" p_within (spP K mg m_within) := by
  obtain ⟨f, fd, F, hm⟩ := T.f_within
  exact fnN_of hm F.kp  (F.bindsN fun _ _ _ _ _ _ us hl => match us, hl with | [_, _], _ => rfl) (okDP F sc_within b_within (body_within T))
theorem body_places (T : Tp w K mg base) : Body P w K mg base n_places "places" (defScope s_places) [] (defBody s_places) 0 b_places := by
  intro f cdv A outer s H E c
  delta b_places
  exact lss_one (ls_ret ((lo_rng3 c (by rfl) T.z_list (by rfl) T.z_range (la_cons (le_int) (la_cons (le_op op2_add (le_op op2_sub (lv 2) (lv 0)) (le_int)) (la_cons (lv 1) (la_nil))))).le))
theorem fn_places (T : Tp w K mg base) : FnN P w K mg base 1 "places" p_places (spP K mg m_places) := by
  obtain ⟨f, fd, F, hm⟩ := T.f_places
  exact fnN_of hm F.kp  (F.bindsN fun _ _ _ _ _ _ us hl => match us, hl with | [_, _, _], _ => rfl) (okDP F sc_places b_places (body_places T))
theorem body_gives (T : Tp w K mg base) {k : Nat} (hk : 1 ≤ k) (r : Nat → List D → Res D) (R0 : FnN P w K mg base k "gives" p_gives (spP K mg (r 0))) (R1 : FnN P w K mg base k "last_length" p_last_length (spP K mg (r 1))) : Body P w K mg base n_gives "gives" (defScope s_gives) [] (defBody s_gives) k (b_gives r) := by
  intro f cdv A outer s H E c
  delta b_gives
  exact lss_cons (ls_set (i := 2) c.nd (by rfl) (by first | exact Or.inl rfl | exact Or.inr rfl) (by decide) (le_ixV (i := 0) (by rfl) (by first | exact Or.inl rfl | exact Or.inr (Or.inl rfl) | exact Or.inr (Or.inr rfl)) (le_int) (fun _ _ => rfl))) (lss_cons (ls_if (lt_cmp (op2_eq ⟨_, c.hr⟩) (lv 2) (le_str) (nomark _)) (lss_one (ls_ret (le_bn bn_len (by rfl) T.z_len (by decide +kernel) (la_cons (le_ixV (i := 0) (by rfl) (by first | exact Or.inl rfl | exact Or.inr (Or.inl rfl) | exact Or.inr (Or.inr rfl)) (le_int) (fun _ _ => rfl)) (la_nil))))) (lss_nil)) (lss_cons (ls_if (lt_cmp (op2_eq ⟨_, c.hr⟩) (lv 2) (le_str) (nomark _)) (lss_one (ls_ret (le_op op2_mul (le_bn bn_len (by rfl) T.z_len (by decide +kernel) (la_cons (le_ixV (i := 0) (by rfl) (by first | exact Or.inl rfl | exact Or.inr (Or.inl rfl) | exact Or.inr (Or.inr rfl)) (le_int) (fun _ _ => rfl)) (la_nil))) (le_bn bn_len (by rfl) T.z_len (by decide +kernel) (la_cons (le_call (fn_places T) c (Nat.le_trans (by decide) hk) (by rfl) (la_cons (le_bn bn_len (by rfl) T.z_len (by decide +kernel) (la_cons (le_ix (le_ixV (i := 0) (by rfl) (by first | exact Or.inl rfl | exact Or.inr (Or.inl rfl) | exact Or.inr (Or.inr rfl)) (le_int) (fun _ _ => rfl)) (le_int) (fun _ _ => rfl)) (la_nil))) (la_cons (le_ixV (i := 0) (by rfl) (by first | exact Or.inl rfl | exact Or.inr (Or.inl rfl) | exact Or.inr (Or.inr rfl)) (le_int) (fun _ _ => rfl)) (la_cons (lv 1) (la_nil))))) (la_nil)))))) (lss_nil)) (lss_cons (ls_if (lt_cmp (op2_in ⟨_, c.hr⟩) (lv 2) (le_tup (la_cons (le_str) (la_cons (le_str) (la_nil)))) (by rfl)) (lss_one (ls_ret (le_op op2_fdiv (lv 1) (le_ixV (i := 0) (by rfl) (by first | exact Or.inl rfl | exact Or.inr (Or.inl rfl) | exact Or.inr (Or.inr rfl)) (le_int) (fun _ _ => rfl))))) (lss_nil)) (lss_cons (ls_if (lt_cmp (op2_eq ⟨_, c.hr⟩) (lv 2) (le_str) (nomark _)) (lss_one (ls_ret (le_call (R1) c (Nat.le_refl _) (by rfl) (la_cons (le_ixV (i := 0) (by rfl) (by first | exact Or.inl rfl | exact Or.inr (Or.inl rfl) | exact Or.inr (Or.inr rfl)) (le_int) (fun _ _ => rfl)) (la_cons (lv 1) (la_nil)))))) (lss_nil)) (lss_cons (ls_if (lt_cmp (op2_eq ⟨_, c.hr⟩) (lv 2) (le_str) (nomark _)) (lss_one (ls_ret (le_op op2_add (le_call (R1) c (Nat.le_refl _) (by rfl) (la_cons (le_ixV (i := 0) (by rfl) (by first | exact Or.inl rfl | exact Or.inr (Or.inl rfl) | exact Or.inr (Or.inr rfl)) (le_int) (fun _ _ => rfl)) (la_cons (lv 1) (la_nil)))) (le_call (R1) c (Nat.le_refl _) (by rfl) (la_cons (le_ixV (i := 0) (by rfl) (by first | exact Or.inl rfl | exact Or.inr (Or.inl rfl) | exact Or.inr (Or.inr rfl)) (le_int) (fun _ _ => rfl)) (la_cons (lv 1) (la_nil))))))) (lss_nil)) (lss_one (ls_ret (lv 1))))))))
theorem body_last_length (T : Tp w K mg base) {k : Nat} (hk : 1 ≤ k) (r : Nat → List D → Res D) (R0 : FnN P w K mg base k "gives" p_gives (spP K mg (r 0))) (R1 : FnN P w K mg base k "last_length" p_last_length (spP K mg (r 1))) : Body P w K mg base n_last_length "last_length" (defScope s_last_length) [] (defBody s_last_length) k (b_last_length r) := by
  intro f cdv A outer s H E c
  delta b_last_length
  exact lss_cons (ls_set (i := 2) c.nd (by rfl) (by first | exact Or.inl rfl | exact Or.inr rfl) (by decide) (lv 1)) (lss_cons (ls_for c.ow c.hc (li_any (lv 0)) (lg_name (i := 3) c.nd (by rfl) (by first | exact Or.inl rfl | exact Or.inr rfl) (by decide)) (lss_one (ls_set (i := 2) c.nd (by rfl) (by first | exact Or.inl rfl | exact Or.inr rfl) (by decide) (le_call (R0) c (Nat.le_refl _) (by rfl) (la_cons (lv 3) (la_cons (lv 2) (la_nil))))))) (lss_one (ls_ret (lv 2))))
theorem fn_g0 (T : Tp w K mg base) : ∀ n, FnN P w K mg base (1 + n) "gives" p_gives (spP K mg (m_g0 n 0)) ∧ FnN P w K mg base (1 + n) "last_length" p_last_length (spP K mg (m_g0 n 1))
  | 0 => by
    obtain ⟨f0, fd0, F0, hm0⟩ := T.f_gives
    obtain ⟨f1, fd1, F1, hm1⟩ := T.f_last_length
    exact ⟨fnN_zero hm0 F0.kp (F0.bindsN fun _ _ _ _ _ _ us hl => match us, hl with | [_, _], _ => rfl), fnN_zero hm1 F1.kp (F1.bindsN fun _ _ _ _ _ _ us hl => match us, hl with | [_, _], _ => rfl)⟩
  | n + 1 => by
    obtain ⟨f0, fd0, F0, hm0⟩ := T.f_gives
    obtain ⟨f1, fd1, F1, hm1⟩ := T.f_last_length
    have R := fn_g0 T n
    exact ⟨fnN_of hm0 F0.kp (F0.bindsN fun _ _ _ _ _ _ us hl => match us, hl with | [_, _], _ => rfl) (okDP F0 sc_gives (b_gives (m_g0 n)) (body_gives T (Nat.le_add_right _ _) (m_g0 n) (R.1) (R.2))), fnN_of hm1 F1.kp (F1.bindsN fun _ _ _ _ _ _ us hl => match us, hl with | [_, _], _ => rfl) (okDP F1 sc_last_length (b_last_length (m_g0 n)) (body_last_length T (Nat.le_add_right _ _) (m_g0 n) (R.1) (R.2)))⟩
theorem fn_gives (T : Tp w K mg base) : FnN P w K mg base 13 "gives" p_gives (spP K mg m_gives) := (fn_g0 T 12).1
theorem fn_last_length (T : Tp w K mg base) : FnN P w K mg base 13 "last_length" p_last_length (spP K mg m_last_length) := (fn_g0 T 12).2
theorem body_is_allowed (T : Tp w K mg base) : Body P w K mg base n_is_allowed "is_allowed" (defScope s_is_allowed) [] (defBody s_is_allowed) 0 b_is_allowed := by
  intro f cdv A outer s H E c
  delta b_is_allowed
  exact lss_one (ls_ret (le_and (le_chain op2_leS op2_leS (le_str) (lv 0) (le_str)) (le_one (le_cmp (op2_ne ⟨_, c.hr⟩) (le_bn bn_ord (by rfl) T.z_ord (by decide +kernel) (la_cons (lv 0) (la_nil))) (lgi T.g_PERCENT) (nomark _)))))
theorem fn_is_allowed (T : Tp w K mg base) : FnN P w K mg base 1 "is_allowed" p_is_allowed (spP K mg m_is_allowed) := by
  obtain ⟨f, fd, F, hm⟩ := T.f_is_allowed
  exact fnN_of hm F.kp  (F.bindsN fun _ _ _ _ _ _ us hl => match us, hl with | [_], _ => rfl) (okDP F sc_is_allowed b_is_allowed (body_is_allowed T))
theorem body_words_of (T : Tp w K mg base) : Body P w K mg base n_words_of "words_of" (defScope s_words_of) [] (defBody s_words_of) 0 b_words_of := by
  intro f cdv A outer s H E c
  delta b_words_of
  exact lss_cons (ls_own (i := 1) c.nd (by rfl) (by first | exact Or.inl rfl | exact Or.inr rfl) (by decide) (lo_lst (la_nil))) (lss_cons (ls_for c.ow c.hc (li_any (le_SM0 nx_words PySem.F.slot_str_split PySem.F.type_str_split mt_words0 (lv 0))) (lg_name (i := 2) c.nd (by rfl) (by first | exact Or.inl rfl | exact Or.inr rfl) (by decide)) (lss_cons (ls_if (lt_val (le_SM nx_starts PySem.F.slot_str_startswith PySem.F.type_str_startswith mt_starts1 (lv 2) (le_str))) (lss_one (ls_break)) (lss_nil)) (lss_one (ls_app (i := 1) (by rfl) (by first | exact Or.inl rfl | exact Or.inr (Or.inl rfl) | exact Or.inr (Or.inr rfl)) (lv 2))))) (lss_one (ls_ret (lv 1))))
theorem fn_words_of (T : Tp w K mg base) : FnN P w K mg base 1 "words_of" p_words_of (spP K mg m_words_of) := by
  obtain ⟨f, fd, F, hm⟩ := T.f_words_of
  exact fnN_of hm F.kp  (F.bindsN fun _ _ _ _ _ _ us hl => match us, hl with | [_], _ => rfl) (okDP F sc_words_of b_words_of (body_words_of T))
theorem body_is_number (T : Tp w K mg base) : Body P w K mg base n_is_number "is_number" (defScope s_is_number) [] (defBody s_is_number) 0 b_is_number := by
  intro f cdv A outer s H E c
  delta b_is_number
  exact lss_cons (ls_set (i := 1) c.nd (by rfl) (by first | exact Or.inl rfl | exact Or.inr rfl) (by decide) (le_SM nx_unpref PySem.F.slot_str_removeprefix PySem.F.type_str_removeprefix mt_unpref1 (lv 0) (le_str))) (lss_cons (ls_if ((lw_or (lt_not (lt_val (le_SM0 nx_isdig PySem.F.slot_str_isdigit PySem.F.type_str_isdigit mt_isdig0 (lv 1)))) (lw_or1 (lt_cmp op2_gt (le_bn bn_lenT (by rfl) T.z_len (by decide +kernel) (la_cons (lv 1) (la_nil))) (lgi T.g_MOST_DIGITS) (nomark _)))).lt) (lss_one (ls_ret (le_bl))) (lss_nil)) (lss_one (ls_ret (le_or (le_cmp (op2_eq ⟨_, c.hr⟩) (lv 0) (le_str) (nomark _)) (le_one (le_not (le_SM nx_starts PySem.F.slot_str_startswith PySem.F.type_str_startswith mt_starts1 (lv 1) (le_str))))))))
theorem fn_is_number (T : Tp w K mg base) : FnN P w K mg base 1 "is_number" p_is_number (spP K mg m_is_number) := by
  obtain ⟨f, fd, F, hm⟩ := T.f_is_number
  exact fnN_of hm F.kp  (F.bindsN fun _ _ _ _ _ _ us hl => match us, hl with | [_], _ => rfl) (okDP F sc_is_number b_is_number (body_is_number T))
theorem body_is_count_right (T : Tp w K mg base) : Body P w K mg base n_is_count_right "is_count_right" (defScope s_is_count_right) [] (defBody s_is_count_right) 0 b_is_count_right := by
  intro f cdv A outer s H E c
  delta b_is_count_right
  exact lss_cons (ls_if (lt_cmp (op2_in ⟨_, c.hr⟩) (le_ixV (i := 0) (by rfl) (by first | exact Or.inl rfl | exact Or.inr (Or.inl rfl) | exact Or.inr (Or.inr rfl)) (le_int) (fun _ _ => rfl)) (le_tup (la_cons (le_str) (la_cons (le_str) (la_nil)))) (by rfl)) (lss_one (ls_ret (le_and (le_cmp op2_ge (le_bn bn_len (by rfl) T.z_len (by decide +kernel) (la_cons (lv 0) (la_nil))) (le_tab T.g_WORDS (le_ixV (i := 0) (by rfl) (by first | exact Or.inl rfl | exact Or.inr (Or.inl rfl) | exact Or.inr (Or.inr rfl)) (le_int) (fun _ _ => rfl)) (fun _ _ => rfl)) (nomark _)) (le_one (le_cmp (op2_eq ⟨_, c.hr⟩) (le_ixV (i := 0) (by rfl) (by first | exact Or.inl rfl | exact Or.inr (Or.inl rfl) | exact Or.inr (Or.inr rfl)) (le_un op1_neg (le_int)) (fun _ _ => rfl)) (le_str) (nomark _)))))) (lss_nil)) (lss_one (ls_ret (le_cmp (op2_eq ⟨_, c.hr⟩) (le_bn bn_len (by rfl) T.z_len (by decide +kernel) (la_cons (lv 0) (la_nil))) (le_tab T.g_WORDS (le_ixV (i := 0) (by rfl) (by first | exact Or.inl rfl | exact Or.inr (Or.inl rfl) | exact Or.inr (Or.inr rfl)) (le_int) (fun _ _ => rfl)) (fun _ _ => rfl)) (nomark _))))
theorem fn_is_count_right (T : Tp w K mg base) : FnN P w K mg base 1 "is_count_right" p_is_count_right (spP K mg m_is_count_right) := by
  obtain ⟨f, fd, F, hm⟩ := T.f_is_count_right
  exact fnN_of hm F.kp  (F.bindsN fun _ _ _ _ _ _ us hl => match us, hl with | [_], _ => rfl) (okDP F sc_is_count_right b_is_count_right (body_is_count_right T))
theorem body_number_words (T : Tp w K mg base) : Body P w K mg base n_number_words "number_words" (defScope s_number_words) [] (defBody s_number_words) 0 b_number_words := by
  intro f cdv A outer s H E c
  delta b_number_words
  exact lss_cons (ls_if (lt_cmp (op2_in ⟨_, c.hr⟩) (le_ixV (i := 0) (by rfl) (by first | exact Or.inl rfl | exact Or.inr (Or.inl rfl) | exact Or.inr (Or.inr rfl)) (le_int) (fun _ _ => rfl)) (le_tup (la_cons (le_str) (la_cons (le_str) (la_nil)))) (by rfl)) (lss_one (ls_ret (le_op op2_add (le_slice (lv 0) (lp_some (le_int)) (lp_some (le_un op1_neg (le_int)))) (le_slice (lv 0) (lp_some (le_un op1_neg (le_int))) (lp_none))))) (lss_nil)) (lss_one (ls_ret (le_slice (lv 0) (lp_some (le_int)) (lp_none))))
theorem fn_number_words (T : Tp w K mg base) : FnN P w K mg base 1 "number_words" p_number_words (spP K mg m_number_words) := by
  obtain ⟨f, fd, F, hm⟩ := T.f_number_words
  exact fnN_of hm F.kp  (F.bindsN fun _ _ _ _ _ _ us hl => match us, hl with | [_], _ => rfl) (okDP F sc_number_words b_number_words (body_number_words T))
theorem body_is_in_range (T : Tp w K mg base) : Body P w K mg base n_is_in_range "is_in_range" (defScope s_is_in_range) [] (defBody s_is_in_range) 2 b_is_in_range := by
  intro f cdv A outer s H E c
  delta b_is_in_range
  exact lss_cons (ls_if (lt_cmp (op2_eq ⟨_, c.hr⟩) (lv 0) (le_str) (nomark _)) (lss_one (ls_ret (le_chain op2_le op2_le (le_int) (lv 1) (lgi T.g_MOST_INPUTS)))) (lss_nil)) (lss_cons (ls_if (lt_cmp (op2_eq ⟨_, c.hr⟩) (lv 0) (le_str) (nomark _)) (lss_one (ls_ret (le_chain op2_le op2_le (le_int) (lv 1) (lgi T.g_MOST_STRIDE)))) (lss_nil)) (lss_cons (ls_if (lt_cmp (op2_eq ⟨_, c.hr⟩) (lv 0) (le_str) (nomark _)) (lss_one (ls_ret (le_cmp op2_ge (lv 1) (le_int) (nomark _)))) (lss_nil)) (lss_cons (ls_if (lt_cmp (op2_eq ⟨_, c.hr⟩) (lv 0) (le_str) (nomark _)) (lss_one (ls_ret (le_cmp (op2_in ⟨_, c.hr⟩) (lv 1) (lgc T.g_MEAN_SIZES) (by rfl)))) (lss_nil)) (lss_cons (ls_if (lt_cmp (op2_eq ⟨_, c.hr⟩) (lv 0) (le_str) (nomark _)) (lss_one (ls_ret (le_call (fn_within T) c (by decide) (by rfl) (la_cons (lv 1) (la_cons (lgi T.g_MOST_SIGNAL) (la_nil)))))) (lss_nil)) (lss_one (ls_ret (le_call (fn_within T) c (by decide) (by rfl) (la_cons (lv 1) (la_cons (lgi T.g_MOST_WEIGHT) (la_nil))))))))))
theorem fn_is_in_range (T : Tp w K mg base) : FnN P w K mg base 3 "is_in_range" p_is_in_range (spP K mg m_is_in_range) := by
  obtain ⟨f, fd, F, hm⟩ := T.f_is_in_range
  exact fnN_of hm F.kp  (F.bindsN fun _ _ _ _ _ _ us hl => match us, hl with | [_, _], _ => rfl) (okDP F sc_is_in_range b_is_in_range (body_is_in_range T))
theorem body_numbers_of (T : Tp w K mg base) : Body P w K mg base n_numbers_of "numbers_of" (defScope s_numbers_of) [] (defBody s_numbers_of) 3 b_numbers_of := by
  intro f cdv A outer s H E c
  delta b_numbers_of
  exact lss_cons (ls_own (i := 2) c.nd (by rfl) (by first | exact Or.inl rfl | exact Or.inr rfl) (by decide) (lo_lst (la_nil))) (lss_cons (ls_for c.ow c.hc (li_any (le_call (fn_number_words T) c (by decide) (by rfl) (la_cons (lv 1) (la_nil)))) (lg_name (i := 3) c.nd (by rfl) (by first | exact Or.inl rfl | exact Or.inr rfl) (by decide)) (lss_cons (ls_if (lt_not (lt_val (le_call (fn_is_number T) c (by decide) (by rfl) (la_cons (lv 3) (la_nil))))) (lss_one (ls_raise2' (ex_BadNet T) c (by decide) (by rfl) (la_cons (lv 0) (la_cons (le_str) (la_nil))))) (lss_nil)) (lss_cons (ls_if (lt_not (lt_val (le_call (fn_is_in_range T) c (by decide) (by rfl) (la_cons (le_ixV (i := 1) (by rfl) (by first | exact Or.inl rfl | exact Or.inr (Or.inl rfl) | exact Or.inr (Or.inr rfl)) (le_int) (fun _ _ => rfl)) (la_cons (le_bnT bn_intT (by rfl) T.z_int (by decide +kernel) (la_cons (lv 3) (la_nil))) (la_nil)))))) (lss_one (ls_raise2' (ex_BadNet T) c (by decide) (by rfl) (la_cons (lv 0) (la_cons (le_str) (la_nil))))) (lss_nil)) (lss_one (ls_app (i := 2) (by rfl) (by first | exact Or.inl rfl | exact Or.inr (Or.inl rfl) | exact Or.inr (Or.inr rfl)) (le_bnT bn_intT (by rfl) T.z_int (by decide +kernel) (la_cons (lv 3) (la_nil)))))))) (lss_cons (ls_if ((lw_and (lt_cmp (op2_eq ⟨_, c.hr⟩) (le_ixV (i := 1) (by rfl) (by first | exact Or.inl rfl | exact Or.inr (Or.inl rfl) | exact Or.inr (Or.inr rfl)) (le_int) (fun _ _ => rfl)) (le_str) (nomark _)) (lw_and1 (lt_cmp op2_gt (le_ixV (i := 2) (by rfl) (by first | exact Or.inl rfl | exact Or.inr (Or.inl rfl) | exact Or.inr (Or.inr rfl)) (le_int) (fun _ _ => rfl)) (le_ixV (i := 2) (by rfl) (by first | exact Or.inl rfl | exact Or.inr (Or.inl rfl) | exact Or.inr (Or.inr rfl)) (le_int) (fun _ _ => rfl)) (nomark _)))).lt) (lss_one (ls_raise2' (ex_BadNet T) c (by decide) (by rfl) (la_cons (lv 0) (la_cons (le_str) (la_nil))))) (lss_nil)) (lss_one (ls_ret (le_bnT bn_tuple (by rfl) T.z_tuple (by decide +kernel) (la_cons (lv 2) (la_nil)))))))
theorem fn_numbers_of (T : Tp w K mg base) : FnN P w K mg base 4 "numbers_of" p_numbers_of (spP K mg m_numbers_of) := by
  obtain ⟨f, fd, F, hm⟩ := T.f_numbers_of
  exact fnN_of hm F.kp  (F.bindsN fun _ _ _ _ _ _ us hl => match us, hl with | [_, _], _ => rfl) (okDP F sc_numbers_of b_numbers_of (body_numbers_of T))
theorem body_Reader___init__ (T : Tp w K mg base) : BodyOE P w K mg base n_Reader___init__ "Reader.__init__" (defScope s_Reader___init__) (defBody s_Reader___init__) 0 b_Reader___init__ := by
  intro f cdv A outer s H E c
  delta b_Reader___init__
  exact lss_cons (ls_PsetL (r := 0) (lp_name (i := 0) (by rfl) (by first | exact Or.inl rfl | exact Or.inr (Or.inl rfl) | exact Or.inr (Or.inr rfl))) (fun C e => no_Reader T "parts" (by simp) C e) (by simp) (lo_lst (la_nil))) (lss_cons (ls_Pset (r := 0) (lp_name (i := 0) (by rfl) (by first | exact Or.inl rfl | exact Or.inr (Or.inl rfl) | exact Or.inr (Or.inr rfl))) (fun C e => no_Reader T "branching" (by simp) C e) (by simp) (le_str)) (lss_cons (ls_Pset (r := 0) (lp_name (i := 0) (by rfl) (by first | exact Or.inl rfl | exact Or.inr (Or.inl rfl) | exact Or.inr (Or.inr rfl))) (fun C e => no_Reader T "head" (by simp) C e) (by simp) (le_tup (la_nil))) (lss_cons (ls_PsetL (r := 0) (lp_name (i := 0) (by rfl) (by first | exact Or.inl rfl | exact Or.inr (Or.inl rfl) | exact Or.inr (Or.inr rfl))) (fun C e => no_Reader T "rows" (by simp) C e) (by simp) (lo_lst (la_nil))) (lss_cons (ls_PsetL (r := 0) (lp_name (i := 0) (by rfl) (by first | exact Or.inl rfl | exact Or.inr (Or.inl rfl) | exact Or.inr (Or.inr rfl))) (fun C e => no_Reader T "biases" (by simp) C e) (by simp) (lo_lst (la_nil))) (lss_cons (ls_Pset (r := 0) (lp_name (i := 0) (by rfl) (by first | exact Or.inl rfl | exact Or.inr (Or.inl rfl) | exact Or.inr (Or.inr rfl))) (fun C e => no_Reader T "row_line" (by simp) C e) (by simp) (le_int)) (lss_one (ls_Pset (r := 0) (lp_name (i := 0) (by rfl) (by first | exact Or.inl rfl | exact Or.inr (Or.inl rfl) | exact Or.inr (Or.inr rfl))) (fun C e => no_Reader T "is_done" (by simp) C e) (by simp) (le_bl))))))))
theorem ca_Reader (T : Tp w K mg base) : ClsA P w K mg base "Reader" 1 m_Reader___init__ := by
  obtain ⟨C, f, fd, H, F⟩ := T.c_Reader
  exact ⟨C, f, fd, _, H.at_, H.cls, H.mkI, F.bindsN fun _ _ _ _ _ _ us hl => match us, hl with | [_], _ => rfl, okDA F sc_Reader___init__ b_Reader___init__ (body_Reader___init__ T)⟩
theorem body_Part_add_layer (T : Tp w K mg base) : BodyOE P w K mg base n_Part_add_layer "Part.add_layer" (defScope s_Part_add_layer) (defBody s_Part_add_layer) 13 b_Part_add_layer := by
  intro f cdv A outer s H E c
  delta b_Part_add_layer
  exact lss_cons (ls_Papp (r := 0) (lp_fld (lp_name (i := 0) (by rfl) (by first | exact Or.inl rfl | exact Or.inr (Or.inl rfl) | exact Or.inr (Or.inr rfl)))) (by simp) (lf_paths (r := 0) (lps_cons (lp_name (i := 2) (by rfl) (by first | exact Or.inl rfl | exact Or.inr (Or.inl rfl) | exact Or.inr (Or.inr rfl))) (lps_nil)))) (lss_cons (ls_Pset (r := 0) (lp_name (i := 0) (by rfl) (by first | exact Or.inl rfl | exact Or.inr (Or.inl rfl) | exact Or.inr (Or.inr rfl))) (fun C e => no_Part T "length" (by simp) C e) (by simp) (le_call (fn_gives T) c (by decide) (by rfl) (la_cons (lv 2) (la_cons (le_P (r := 0) (lp_fld (lp_name (i := 0) (by rfl) (by first | exact Or.inl rfl | exact Or.inr (Or.inl rfl) | exact Or.inr (Or.inr rfl))))) (la_nil))))) (lss_one (ls_if (lt_cmp op2_gt (le_P (r := 0) (lp_fld (lp_name (i := 0) (by rfl) (by first | exact Or.inl rfl | exact Or.inr (Or.inl rfl) | exact Or.inr (Or.inr rfl))))) (lgi T.g_MOST_LENGTH) (nomark _)) (lss_one (ls_raise2' (ex_BadNet T) c (by decide) (by rfl) (la_cons (lv 1) (la_cons (le_str) (la_nil))))) (lss_nil))))
theorem fn_Part_add_layer (T : Tp w K mg base) : FnM P w K mg base 14 "Part" "add_layer" p_Part_add_layer (spA K mg m_Part_add_layer) := by
  obtain ⟨C, f, fd, F, hm, hM⟩ := T.f_Part_add_layer
  exact fnM_of hm hM (F.bindsN fun _ _ _ _ _ _ us hl => match us, hl with | [_, _, _], _ => rfl) (okDA F sc_Part_add_layer b_Part_add_layer (body_Part_add_layer T))
theorem body_Reader_end_rows (T : Tp w K mg base) : BodyOE P w K mg base n_Reader_end_rows "Reader.end_rows" (defScope s_Reader_end_rows) (defBody s_Reader_end_rows) 14 b_Reader_end_rows := by
  intro f cdv A outer s H E c
  delta b_Reader_end_rows
  exact lss_cons (ls_if (lt_cmp (op2_eq ⟨_, c.hr⟩) (le_lenP (r := 0) (lp_fld (lp_name (i := 0) (by rfl) (by first | exact Or.inl rfl | exact Or.inr (Or.inl rfl) | exact Or.inr (Or.inr rfl)))) (by rfl) T.z_len rfl) (le_int) (nomark _)) (lss_one (ls_retN)) (lss_nil)) (lss_cons (ls_set (i := 1) c.nd (by rfl) (by first | exact Or.inl rfl | exact Or.inr rfl) (by decide) (le_op op2_add (le_tup (la_cons (le_ix (le_P (r := 0) (lp_fld (lp_name (i := 0) (by rfl) (by first | exact Or.inl rfl | exact Or.inr (Or.inl rfl) | exact Or.inr (Or.inr rfl))))) (le_int) (fun _ _ => rfl)) (la_cons (le_tupP (r := 0) (lp_fld (lp_name (i := 0) (by rfl) (by first | exact Or.inl rfl | exact Or.inr (Or.inl rfl) | exact Or.inr (Or.inr rfl)))) (by rfl) T.z_tuple rfl) (la_cons (le_tupP (r := 0) (lp_fld (lp_name (i := 0) (by rfl) (by first | exact Or.inl rfl | exact Or.inr (Or.inl rfl) | exact Or.inr (Or.inr rfl)))) (by rfl) T.z_tuple rfl) (la_nil))))) (le_slice (le_P (r := 0) (lp_fld (lp_name (i := 0) (by rfl) (by first | exact Or.inl rfl | exact Or.inr (Or.inl rfl) | exact Or.inr (Or.inr rfl))))) (lp_some (le_int)) (lp_none)))) (lss_cons (ls_Pset (r := 0) (lp_name (i := 0) (by rfl) (by first | exact Or.inl rfl | exact Or.inr (Or.inl rfl) | exact Or.inr (Or.inr rfl))) (fun C e => no_Reader T "head" (by simp) C e) (by simp) (le_tup (la_nil))) (lss_cons (ls_PsetL (r := 0) (lp_name (i := 0) (by rfl) (by first | exact Or.inl rfl | exact Or.inr (Or.inl rfl) | exact Or.inr (Or.inr rfl))) (fun C e => no_Reader T "rows" (by simp) C e) (by simp) (lo_lst (la_nil))) (lss_cons (ls_PsetL (r := 0) (lp_name (i := 0) (by rfl) (by first | exact Or.inl rfl | exact Or.inr (Or.inl rfl) | exact Or.inr (Or.inr rfl))) (fun C e => no_Reader T "biases" (by simp) C e) (by simp) (lo_lst (la_nil))) (lss_one (ls_expr (le_methS (r := 0) (fn_Part_add_layer T) c (by decide) (by simp) (lp_ix (lp_fld (lp_name (i := 0) (by rfl) (by first | exact Or.inl rfl | exact Or.inr (Or.inl rfl) | exact Or.inr (Or.inr rfl)))) pe_neg (fun _ _ => rfl)) (lf_paths (r := 0) (lps_cons (lp_fld (lp_name (i := 0) (by rfl) (by first | exact Or.inl rfl | exact Or.inr (Or.inl rfl) | exact Or.inr (Or.inr rfl)))) (lps_cons (lp_name (i := 1) (by rfl) (by first | exact Or.inl rfl | exact Or.inr (Or.inl rfl) | exact Or.inr (Or.inr rfl))) (lps_nil)))))))))))
theorem fn_Reader_end_rows (T : Tp w K mg base) : FnM P w K mg base 15 "Reader" "end_rows" p_Reader_end_rows (spA K mg m_Reader_end_rows) := by
  obtain ⟨C, f, fd, F, hm, hM⟩ := T.f_Reader_end_rows
  exact fnM_of hm hM (F.bindsN fun _ _ _ _ _ _ us hl => match us, hl with | [_], _ => rfl) (okDA F sc_Reader_end_rows b_Reader_end_rows (body_Reader_end_rows T))
theorem body_Reader_ended (T : Tp w K mg base) : BodyOE P w K mg base n_Reader_ended "Reader.ended" (defScope s_Reader_ended) (defBody s_Reader_ended) 15 b_Reader_ended := by
  intro f cdv A outer s H E c
  delta b_Reader_ended
  exact lss_cons (ls_expr (le_methA0 (r := 0) (fn_Reader_end_rows T) c (by decide) (by simp) (by rfl) (by first | exact Or.inl rfl | exact Or.inr (Or.inl rfl) | exact Or.inr (Or.inr rfl)))) (lss_cons (ls_if (lt_not (lt_val (le_P (r := 0) (lp_fld (lp_name (i := 0) (by rfl) (by first | exact Or.inl rfl | exact Or.inr (Or.inl rfl) | exact Or.inr (Or.inr rfl))))))) (lss_one (ls_raise2' (ex_BadNet T) c (by decide) (by rfl) (la_cons (lv 1) (la_cons (le_str) (la_nil))))) (lss_nil)) (lss_one (ls_ret (le_tup (la_cons (le_str) (la_cons (le_P (r := 0) (lp_fld (lp_ix (lp_fld (lp_name (i := 0) (by rfl) (by first | exact Or.inl rfl | exact Or.inr (Or.inl rfl) | exact Or.inr (Or.inr rfl)))) pe_int (fun _ _ => rfl)))) (la_cons (le_tupP (r := 0) (lp_fld (lp_ix (lp_fld (lp_name (i := 0) (by rfl) (by first | exact Or.inl rfl | exact Or.inr (Or.inl rfl) | exact Or.inr (Or.inr rfl)))) pe_int (fun _ _ => rfl))) (by rfl) T.z_tuple rfl) (la_nil))))))))
theorem fn_Reader_ended (T : Tp w K mg base) : FnM P w K mg base 16 "Reader" "ended" p_Reader_ended (spA K mg m_Reader_ended) := by
  obtain ⟨C, f, fd, F, hm, hM⟩ := T.f_Reader_ended
  exact fnM_of hm hM (F.bindsN fun _ _ _ _ _ _ us hl => match us, hl with | [_, _], _ => rfl) (okDA F sc_Reader_ended b_Reader_ended (body_Reader_ended T))
theorem body_Reader_is_full (T : Tp w K mg base) : BodyOE P w K mg base n_Reader_is_full "Reader.is_full" (defScope s_Reader_is_full) (defBody s_Reader_is_full) 0 b_Reader_is_full := by
  intro f cdv A outer s H E c
  delta b_Reader_is_full
  exact lss_cons (ls_if (lt_cmp (op2_eq ⟨_, c.hr⟩) (lv 1) (le_str) (nomark _)) (lss_one (ls_ret (le_cmp (op2_eq ⟨_, c.hr⟩) (le_lenP (r := 0) (lp_fld (lp_name (i := 0) (by rfl) (by first | exact Or.inl rfl | exact Or.inr (Or.inl rfl) | exact Or.inr (Or.inr rfl)))) (by rfl) T.z_len rfl) (lgi T.g_MOST_ROWS) (nomark _)))) (lss_nil)) (lss_cons (ls_if (lt_cmp (op2_eq ⟨_, c.hr⟩) (lv 1) (le_str) (nomark _)) (lss_one (ls_ret (le_cmp (op2_eq ⟨_, c.hr⟩) (le_lenP (r := 0) (lp_fld (lp_name (i := 0) (by rfl) (by first | exact Or.inl rfl | exact Or.inr (Or.inl rfl) | exact Or.inr (Or.inr rfl)))) (by rfl) T.z_len rfl) (lgi T.g_MOST_KERNELS) (nomark _)))) (lss_nil)) (lss_one (ls_ret (le_and (le_cmp (op2_in ⟨_, c.hr⟩) (lv 1) (lgc T.g_KINDS) (by rfl)) (le_one (le_cmp (op2_eq ⟨_, c.hr⟩) (le_lenP (r := 0) (lp_fld (lp_ix (lp_fld (lp_name (i := 0) (by rfl) (by first | exact Or.inl rfl | exact Or.inr (Or.inl rfl) | exact Or.inr (Or.inr rfl)))) pe_neg (fun _ _ => rfl))) (by rfl) T.z_len rfl) (lgi T.g_MOST_LAYERS) (nomark _)))))))
theorem fn_Reader_is_full (T : Tp w K mg base) : FnM P w K mg base 1 "Reader" "is_full" p_Reader_is_full (spA K mg m_Reader_is_full) := by
  obtain ⟨C, f, fd, F, hm, hM⟩ := T.f_Reader_is_full
  exact fnM_of hm hM (F.bindsN fun _ _ _ _ _ _ us hl => match us, hl with | [_, _], _ => rfl) (okDA F sc_Reader_is_full b_Reader_is_full (body_Reader_is_full T))
theorem body_Reader_add_row (T : Tp w K mg base) : BodyOE P w K mg base n_Reader_add_row "Reader.add_row" (defScope s_Reader_add_row) (defBody s_Reader_add_row) 2 b_Reader_add_row := by
  intro f cdv A outer s H E c
  delta b_Reader_add_row
  exact lss_cons (ls_set (i := 4) c.nd (by rfl) (by first | exact Or.inl rfl | exact Or.inr rfl) (by decide) (le_op op2_sub (le_bn bn_len (by rfl) T.z_len (by decide +kernel) (la_cons (lv 3) (la_nil))) (le_int))) (lss_cons (ls_set (i := 5) c.nd (by rfl) (by first | exact Or.inl rfl | exact Or.inr rfl) (by decide) (le_P (r := 0) (lp_fld (lp_ix (lp_fld (lp_name (i := 0) (by rfl) (by first | exact Or.inl rfl | exact Or.inr (Or.inl rfl) | exact Or.inr (Or.inr rfl)))) pe_neg (fun _ _ => rfl))))) (lss_cons (ls_if ((lw_or (lt_cmp op2_gt (lv 4) (lv 5) (nomark _)) (lw_or1 ((lw_and (lt_cmp (op2_eq ⟨_, c.hr⟩) (lv 2) (le_str) (nomark _)) (lw_and1 (lt_cmp op2_lt (lv 4) (lv 5) (nomark _)))).lt))).lt) (lss_one (ls_raise2' (ex_BadNet T) c (by decide) (by rfl) (la_cons (lv 1) (la_cons (le_str) (la_nil))))) (lss_nil)) (lss_cons (ls_if ((lw_and (lt_cmp op2_gt (le_lenP (r := 0) (lp_fld (lp_name (i := 0) (by rfl) (by first | exact Or.inl rfl | exact Or.inr (Or.inl rfl) | exact Or.inr (Or.inr rfl)))) (by rfl) T.z_len rfl) (le_int) (nomark _)) (lw_and1 (lt_cmp (op2_ne ⟨_, c.hr⟩) (le_bn bn_len (by rfl) T.z_len (by decide +kernel) (la_cons (le_P (r := 0) (lp_ix (lp_fld (lp_name (i := 0) (by rfl) (by first | exact Or.inl rfl | exact Or.inr (Or.inl rfl) | exact Or.inr (Or.inr rfl)))) pe_int (fun _ _ => rfl))) (la_nil))) (lv 4) (nomark _)))).lt) (lss_one (ls_raise2' (ex_BadNet T) c (by decide) (by rfl) (la_cons (lv 1) (la_cons (le_str) (la_nil))))) (lss_nil)) (lss_cons (ls_Papp (r := 0) (lp_fld (lp_name (i := 0) (by rfl) (by first | exact Or.inl rfl | exact Or.inr (Or.inl rfl) | exact Or.inr (Or.inr rfl)))) (by simp) (lf_of (la_cons (le_slice (lv 3) (lp_none) (lp_some (le_un op1_neg (le_int)))) (la_nil)))) (lss_cons (ls_Papp (r := 0) (lp_fld (lp_name (i := 0) (by rfl) (by first | exact Or.inl rfl | exact Or.inr (Or.inl rfl) | exact Or.inr (Or.inr rfl)))) (by simp) (lf_of (la_cons (le_ixV (i := 3) (by rfl) (by first | exact Or.inl rfl | exact Or.inr (Or.inl rfl) | exact Or.inr (Or.inr rfl)) (le_un op1_neg (le_int)) (fun _ _ => rfl)) (la_nil)))) (lss_one (ls_Pset (r := 0) (lp_name (i := 0) (by rfl) (by first | exact Or.inl rfl | exact Or.inr (Or.inl rfl) | exact Or.inr (Or.inr rfl))) (fun C e => no_Reader T "row_line" (by simp) C e) (by simp) (lv 1))))))))
theorem fn_Reader_add_row (T : Tp w K mg base) : FnM P w K mg base 3 "Reader" "add_row" p_Reader_add_row (spA K mg m_Reader_add_row) := by
  obtain ⟨C, f, fd, F, hm, hM⟩ := T.f_Reader_add_row
  exact fnM_of hm hM (F.bindsN fun _ _ _ _ _ _ us hl => match us, hl with | [_, _, _, _], _ => rfl) (okDA F sc_Reader_add_row b_Reader_add_row (body_Reader_add_row T))
theorem body_Part___init__ (T : Tp w K mg base) : BodyOE P w K mg base n_Part___init__ "Part.__init__" (defScope s_Part___init__) (defBody s_Part___init__) 0 b_Part___init__ := by
  intro f cdv A outer s H E c
  delta b_Part___init__
  exact lss_cons (ls_Pset (r := 0) (lp_name (i := 0) (by rfl) (by first | exact Or.inl rfl | exact Or.inr (Or.inl rfl) | exact Or.inr (Or.inr rfl))) (fun C e => no_Part T "inputs" (by simp) C e) (by simp) (lv 1)) (lss_cons (ls_PsetL (r := 0) (lp_name (i := 0) (by rfl) (by first | exact Or.inl rfl | exact Or.inr (Or.inl rfl) | exact Or.inr (Or.inr rfl))) (fun C e => no_Part T "layers" (by simp) C e) (by simp) (lo_lst (la_nil))) (lss_one (ls_Pset (r := 0) (lp_name (i := 0) (by rfl) (by first | exact Or.inl rfl | exact Or.inr (Or.inl rfl) | exact Or.inr (Or.inr rfl))) (fun C e => no_Part T "length" (by simp) C e) (by simp) (lv 1))))
theorem ca_Part (T : Tp w K mg base) : ClsA P w K mg base "Part" 1 m_Part___init__ := by
  obtain ⟨C, f, fd, H, F⟩ := T.c_Part
  exact ⟨C, f, fd, _, H.at_, H.cls, H.mkI, F.bindsN fun _ _ _ _ _ _ us hl => match us, hl with | [_, _], _ => rfl, okDA F sc_Part___init__ b_Part___init__ (body_Part___init__ T)⟩
theorem body_Reader_end_branches (T : Tp w K mg base) : BodyOE P w K mg base n_Reader_end_branches "Reader.end_branches" (defScope s_Reader_end_branches) (defBody s_Reader_end_branches) 14 b_Reader_end_branches := by
  intro f cdv A outer s H E c
  delta b_Reader_end_branches
  exact lss_cons (ls_PopP (i := 2) (r := 0) (lp_fld (lp_name (i := 0) (by rfl) (by first | exact Or.inl rfl | exact Or.inr (Or.inl rfl) | exact Or.inr (Or.inr rfl)))) (by simp) c.nd (by rfl) (by first | exact Or.inl rfl | exact Or.inr rfl) (by decide)) (lss_cons (ls_PopP (i := 3) (r := 0) (lp_fld (lp_name (i := 0) (by rfl) (by first | exact Or.inl rfl | exact Or.inr (Or.inl rfl) | exact Or.inr (Or.inr rfl)))) (by simp) c.nd (by rfl) (by first | exact Or.inl rfl | exact Or.inr rfl) (by decide)) (lss_cons (ls_if ((lw_and (lt_cmp (op2_eq ⟨_, c.hr⟩) (le_P (r := 0) (lp_fld (lp_name (i := 0) (by rfl) (by first | exact Or.inl rfl | exact Or.inr (Or.inl rfl) | exact Or.inr (Or.inr rfl))))) (le_str) (nomark _)) (lw_and1 (lt_cmp (op2_ne ⟨_, c.hr⟩) (le_P (r := 0) (lp_fld (lp_name (i := 3) (by rfl) (by first | exact Or.inl rfl | exact Or.inr (Or.inl rfl) | exact Or.inr (Or.inr rfl))))) (le_P (r := 0) (lp_fld (lp_name (i := 2) (by rfl) (by first | exact Or.inl rfl | exact Or.inr (Or.inl rfl) | exact Or.inr (Or.inr rfl))))) (nomark _)))).lt) (lss_one (ls_raise2' (ex_BadNet T) c (by decide) (by rfl) (la_cons (lv 1) (la_cons (le_str) (la_nil))))) (lss_nil)) (lss_cons (ls_set (i := 4) c.nd (by rfl) (by first | exact Or.inl rfl | exact Or.inr rfl) (by decide) (le_tup (la_cons (le_P (r := 0) (lp_fld (lp_name (i := 0) (by rfl) (by first | exact Or.inl rfl | exact Or.inr (Or.inl rfl) | exact Or.inr (Or.inr rfl))))) (la_cons (le_tupP (r := 0) (lp_fld (lp_name (i := 3) (by rfl) (by first | exact Or.inl rfl | exact Or.inr (Or.inl rfl) | exact Or.inr (Or.inr rfl)))) (by rfl) T.z_tuple rfl) (la_cons (le_tupP (r := 0) (lp_fld (lp_name (i := 2) (by rfl) (by first | exact Or.inl rfl | exact Or.inr (Or.inl rfl) | exact Or.inr (Or.inr rfl)))) (by rfl) T.z_tuple rfl) (la_nil)))))) (lss_one (ls_expr (le_methS (r := 0) (fn_Part_add_layer T) c (by decide) (by simp) (lp_ix (lp_fld (lp_name (i := 0) (by rfl) (by first | exact Or.inl rfl | exact Or.inr (Or.inl rfl) | exact Or.inr (Or.inr rfl)))) pe_int (fun _ _ => rfl)) (lf_paths (r := 0) (lps_cons (lp_name (i := 1) (by rfl) (by first | exact Or.inl rfl | exact Or.inr (Or.inl rfl) | exact Or.inr (Or.inr rfl))) (lps_cons (lp_name (i := 4) (by rfl) (by first | exact Or.inl rfl | exact Or.inr (Or.inl rfl) | exact Or.inr (Or.inr rfl))) (lps_nil))))))))))
theorem fn_Reader_end_branches (T : Tp w K mg base) : FnM P w K mg base 15 "Reader" "end_branches" p_Reader_end_branches (spA K mg m_Reader_end_branches) := by
  obtain ⟨C, f, fd, F, hm, hM⟩ := T.f_Reader_end_branches
  exact fnM_of hm hM (F.bindsN fun _ _ _ _ _ _ us hl => match us, hl with | [_, _], _ => rfl) (okDA F sc_Reader_end_branches b_Reader_end_branches (body_Reader_end_branches T))
theorem body_Reader_add_plain (T : Tp w K mg base) : BodyOE P w K mg base n_Reader_add_plain "Reader.add_plain" (defScope s_Reader_add_plain) (defBody s_Reader_add_plain) 14 b_Reader_add_plain := by
  intro f cdv A outer s H E c
  delta b_Reader_add_plain
  exact lss_cons (ls_Ali (i := 3) (r := 0) (lp_ix (lp_fld (lp_name (i := 0) (by rfl) (by first | exact Or.inl rfl | exact Or.inr (Or.inl rfl) | exact Or.inr (Or.inr rfl)))) pe_neg (fun _ _ => rfl)) c.nd (by rfl) (by first | exact Or.inl rfl | exact Or.inr rfl) (by decide)) (lss_cons (ls_if ((lw_and (lt_cmp (op2_in ⟨_, c.hr⟩) (le_ixV (i := 2) (by rfl) (by first | exact Or.inl rfl | exact Or.inr (Or.inl rfl) | exact Or.inr (Or.inr rfl)) (le_int) (fun _ _ => rfl)) (le_tup (la_cons (le_str) (la_cons (le_str) (la_nil)))) (by rfl)) (lw_and1 (lt_cmp (op2_ne ⟨_, c.hr⟩) (le_op op2_mod (le_P (r := 0) (lp_fld (lp_name (i := 3) (by rfl) (by first | exact Or.inl rfl | exact Or.inr (Or.inl rfl) | exact Or.inr (Or.inr rfl))))) (le_ixV (i := 2) (by rfl) (by first | exact Or.inl rfl | exact Or.inr (Or.inl rfl) | exact Or.inr (Or.inr rfl)) (le_int) (fun _ _ => rfl))) (le_int) (nomark _)))).lt) (lss_one (ls_raise2' (ex_BadNet T) c (by decide) (by rfl) (la_cons (lv 1) (la_cons (le_str) (la_nil))))) (lss_nil)) (lss_one (ls_expr (le_methS (r := 0) (fn_Part_add_layer T) c (by decide) (by simp) (lp_name (i := 3) (by rfl) (by first | exact Or.inl rfl | exact Or.inr (Or.inl rfl) | exact Or.inr (Or.inr rfl))) (lf_paths (r := 0) (lps_cons (lp_name (i := 1) (by rfl) (by first | exact Or.inl rfl | exact Or.inr (Or.inl rfl) | exact Or.inr (Or.inr rfl))) (lps_cons (lp_name (i := 2) (by rfl) (by first | exact Or.inl rfl | exact Or.inr (Or.inl rfl) | exact Or.inr (Or.inr rfl))) (lps_nil))))))))
theorem fn_Reader_add_plain (T : Tp w K mg base) : FnM P w K mg base 15 "Reader" "add_plain" p_Reader_add_plain (spA K mg m_Reader_add_plain) := by
  obtain ⟨C, f, fd, F, hm, hM⟩ := T.f_Reader_add_plain
  exact fnM_of hm hM (F.bindsN fun _ _ _ _ _ _ us hl => match us, hl with | [_, _, _], _ => rfl) (okDA F sc_Reader_add_plain b_Reader_add_plain (body_Reader_add_plain T))
theorem body_Reader_add_line (T : Tp w K mg base) : BodyOE P w K mg base n_Reader_add_line "Reader.add_line" (defScope s_Reader_add_line) (defBody s_Reader_add_line) 15 b_Reader_add_line := by
  intro f cdv A outer s H E c
  delta b_Reader_add_line
  exact lss_one (ls_if (lt_cmp (op2_in ⟨_, c.hr⟩) (lv 2) (le_tup (la_cons (le_str) (la_cons (le_str) (la_nil)))) (by rfl)) (lss_one (ls_expr (le_methA (r := 0) (fn_Reader_add_row T) c (by decide) (by simp) (by rfl) (by first | exact Or.inl rfl | exact Or.inr (Or.inl rfl) | exact Or.inr (Or.inr rfl)) (la_cons (lv 1) (la_cons (lv 2) (la_cons (lv 3) (la_nil))))))) (lss_one (ls_if (lt_inTab T.h_ROW_WORDS (lv 2)) (lss_one (ls_Pset (r := 0) (lp_name (i := 0) (by rfl) (by first | exact Or.inl rfl | exact Or.inr (Or.inl rfl) | exact Or.inr (Or.inr rfl))) (fun C e => no_Reader T "head" (by simp) C e) (by simp) (le_op op2_add (le_tup (la_cons (lv 2) (la_nil))) (lv 3)))) (lss_one (ls_if (lt_cmp (op2_in ⟨_, c.hr⟩) (lv 2) (le_tup (la_cons (le_str) (la_cons (le_str) (la_nil)))) (by rfl)) (lss_cons (ls_Pset (r := 0) (lp_name (i := 0) (by rfl) (by first | exact Or.inl rfl | exact Or.inr (Or.inl rfl) | exact Or.inr (Or.inr rfl))) (fun C e => no_Reader T "branching" (by simp) C e) (by simp) (lv 2)) (lss_one (ls_PappN (r := 0) (ca_Part T) c (by decide) (by rfl) (lp_fld (lp_name (i := 0) (by rfl) (by first | exact Or.inl rfl | exact Or.inr (Or.inl rfl) | exact Or.inr (Or.inr rfl)))) (by simp) (lf_paths (r := 0) (lps_cons (lp_fld (lp_ix (lp_fld (lp_name (i := 0) (by rfl) (by first | exact Or.inl rfl | exact Or.inr (Or.inl rfl) | exact Or.inr (Or.inr rfl)))) pe_int (fun _ _ => rfl))) (lps_nil)))))) (lss_one (ls_if (lt_cmp (op2_eq ⟨_, c.hr⟩) (lv 2) (le_str) (nomark _)) (lss_one (ls_PappN (r := 0) (ca_Part T) c (by decide) (by rfl) (lp_fld (lp_name (i := 0) (by rfl) (by first | exact Or.inl rfl | exact Or.inr (Or.inl rfl) | exact Or.inr (Or.inr rfl)))) (by simp) (lf_paths (r := 0) (lps_cons (lp_fld (lp_ix (lp_fld (lp_name (i := 0) (by rfl) (by first | exact Or.inl rfl | exact Or.inr (Or.inl rfl) | exact Or.inr (Or.inr rfl)))) pe_int (fun _ _ => rfl))) (lps_nil))))) (lss_one (ls_if (lt_cmp (op2_eq ⟨_, c.hr⟩) (lv 2) (le_str) (nomark _)) (lss_one (ls_expr (le_methA (r := 0) (fn_Reader_end_branches T) c (by decide) (by simp) (by rfl) (by first | exact Or.inl rfl | exact Or.inr (Or.inl rfl) | exact Or.inr (Or.inr rfl)) (la_cons (lv 1) (la_nil))))) (lss_one (ls_if (lt_cmp (op2_eq ⟨_, c.hr⟩) (lv 2) (le_str) (nomark _)) (lss_one (ls_Pset (r := 0) (lp_name (i := 0) (by rfl) (by first | exact Or.inl rfl | exact Or.inr (Or.inl rfl) | exact Or.inr (Or.inr rfl))) (fun C e => no_Reader T "is_done" (by simp) C e) (by simp) (le_bl))) (lss_one (ls_expr (le_methA (r := 0) (fn_Reader_add_plain T) c (by decide) (by simp) (by rfl) (by first | exact Or.inl rfl | exact Or.inr (Or.inl rfl) | exact Or.inr (Or.inr rfl)) (la_cons (lv 1) (la_cons (le_op op2_add (le_tup (la_cons (lv 2) (la_nil))) (lv 3)) (la_nil)))))))))))))))))
theorem fn_Reader_add_line (T : Tp w K mg base) : FnM P w K mg base 16 "Reader" "add_line" p_Reader_add_line (spA K mg m_Reader_add_line) := by
  obtain ⟨C, f, fd, F, hm, hM⟩ := T.f_Reader_add_line
  exact fnM_of hm hM (F.bindsN fun _ _ _ _ _ _ us hl => match us, hl with | [_, _, _, _], _ => rfl) (okDA F sc_Reader_add_line b_Reader_add_line (body_Reader_add_line T))
theorem body_Reader_read_first (T : Tp w K mg base) : BodyOE P w K mg base n_Reader_read_first "Reader.read_first" (defScope s_Reader_read_first) (defBody s_Reader_read_first) 4 b_Reader_read_first := by
  intro f cdv A outer s H E c
  delta b_Reader_read_first
  exact lss_cons (ls_if ((lw_or (lt_cmp (op2_ne ⟨_, c.hr⟩) (le_ixV (i := 2) (by rfl) (by first | exact Or.inl rfl | exact Or.inr (Or.inl rfl) | exact Or.inr (Or.inr rfl)) (le_int) (fun _ _ => rfl)) (le_str) (nomark _)) (lw_or1 (lt_cmp (op2_ne ⟨_, c.hr⟩) (le_bn bn_len (by rfl) T.z_len (by decide +kernel) (la_cons (lv 2) (la_nil))) (le_tab T.g_WORDS (le_str) (fun _ _ => rfl)) (nomark _)))).lt) (lss_one (ls_raise2' (ex_BadNet T) c (by decide) (by rfl) (la_cons (lv 1) (la_cons (le_str) (la_nil))))) (lss_nil)) (lss_one (ls_PappN (r := 0) (ca_Part T) c (by decide) (by rfl) (lp_fld (lp_name (i := 0) (by rfl) (by first | exact Or.inl rfl | exact Or.inr (Or.inl rfl) | exact Or.inr (Or.inr rfl)))) (by simp) (lf_of (la_cons (le_ix (le_call (fn_numbers_of T) c (by decide) (by rfl) (la_cons (lv 1) (la_cons (lv 2) (la_nil)))) (le_int) (fun _ _ => rfl)) (la_nil)))))
theorem fn_Reader_read_first (T : Tp w K mg base) : FnM P w K mg base 5 "Reader" "read_first" p_Reader_read_first (spA K mg m_Reader_read_first) := by
  obtain ⟨C, f, fd, F, hm, hM⟩ := T.f_Reader_read_first
  exact fnM_of hm hM (F.bindsN fun _ _ _ _ _ _ us hl => match us, hl with | [_, _, _], _ => rfl) (okDA F sc_Reader_read_first b_Reader_read_first (body_Reader_read_first T))
theorem body_Reader_is_own (T : Tp w K mg base) : BodyOE P w K mg base n_Reader_is_own "Reader.is_own" (defScope s_Reader_is_own) (defBody s_Reader_is_own) 0 b_Reader_is_own := by
  intro f cdv A outer s H E c
  delta b_Reader_is_own
  exact lss_one (ls_ret (le_and (le_cmp (op2_ne ⟨_, c.hr⟩) (le_P (r := 0) (lp_fld (lp_name (i := 0) (by rfl) (by first | exact Or.inl rfl | exact Or.inr (Or.inl rfl) | exact Or.inr (Or.inr rfl))))) (le_tup (la_nil)) (nomark _)) (le_one (le_cmp (op2_eq ⟨_, c.hr⟩) (le_tab T.g_ROW_WORDS (le_ix (le_P (r := 0) (lp_fld (lp_name (i := 0) (by rfl) (by first | exact Or.inl rfl | exact Or.inr (Or.inl rfl) | exact Or.inr (Or.inr rfl))))) (le_int) (fun _ _ => rfl)) (fun _ _ => rfl)) (lv 1) (nomark _)))))
theorem fn_Reader_is_own (T : Tp w K mg base) : FnM P w K mg base 1 "Reader" "is_own" p_Reader_is_own (spA K mg m_Reader_is_own) := by
  obtain ⟨C, f, fd, F, hm, hM⟩ := T.f_Reader_is_own
  exact fnM_of hm hM (F.bindsN fun _ _ _ _ _ _ us hl => match us, hl with | [_, _], _ => rfl) (okDA F sc_Reader_is_own b_Reader_is_own (body_Reader_is_own T))
theorem body_Reader_is_in_place (T : Tp w K mg base) : BodyOE P w K mg base n_Reader_is_in_place "Reader.is_in_place" (defScope s_Reader_is_in_place) (defBody s_Reader_is_in_place) 1 b_Reader_is_in_place := by
  intro f cdv A outer s H E c
  delta b_Reader_is_in_place
  exact lss_cons (ls_if (lt_val (le_P (r := 0) (lp_fld (lp_name (i := 0) (by rfl) (by first | exact Or.inl rfl | exact Or.inr (Or.inl rfl) | exact Or.inr (Or.inr rfl)))))) (lss_one (ls_ret (le_bl))) (lss_nil)) (lss_cons (ls_if (lt_cmp (op2_ne ⟨_, c.hr⟩) (le_P (r := 0) (lp_fld (lp_name (i := 0) (by rfl) (by first | exact Or.inl rfl | exact Or.inr (Or.inl rfl) | exact Or.inr (Or.inr rfl))))) (le_tup (la_nil)) (nomark _)) (lss_one (ls_ret (le_methA (r := 0) (fn_Reader_is_own T) c (by decide) (by simp) (by rfl) (by first | exact Or.inl rfl | exact Or.inr (Or.inl rfl) | exact Or.inr (Or.inr rfl)) (la_cons (lv 1) (la_nil))))) (lss_nil)) (lss_cons (ls_if (lt_cmp (op2_in ⟨_, c.hr⟩) (lv 1) (le_tup (la_cons (le_str) (la_cons (le_str) (la_cons (le_str) (la_nil))))) (by rfl)) (lss_one (ls_ret (le_cmp (op2_eq ⟨_, c.hr⟩) (le_lenP (r := 0) (lp_fld (lp_name (i := 0) (by rfl) (by first | exact Or.inl rfl | exact Or.inr (Or.inl rfl) | exact Or.inr (Or.inr rfl)))) (by rfl) T.z_len rfl) (le_int) (nomark _)))) (lss_nil)) (lss_cons (ls_if (lt_cmp (op2_eq ⟨_, c.hr⟩) (lv 1) (le_str) (nomark _)) (lss_one (ls_ret (le_cmp (op2_eq ⟨_, c.hr⟩) (le_lenP (r := 0) (lp_fld (lp_name (i := 0) (by rfl) (by first | exact Or.inl rfl | exact Or.inr (Or.inl rfl) | exact Or.inr (Or.inr rfl)))) (by rfl) T.z_len rfl) (le_int) (nomark _)))) (lss_nil)) (lss_cons (ls_if (lt_cmp (op2_eq ⟨_, c.hr⟩) (lv 1) (le_str) (nomark _)) (lss_one (ls_ret (le_cmp (op2_eq ⟨_, c.hr⟩) (le_lenP (r := 0) (lp_fld (lp_name (i := 0) (by rfl) (by first | exact Or.inl rfl | exact Or.inr (Or.inl rfl) | exact Or.inr (Or.inr rfl)))) (by rfl) T.z_len rfl) (le_int) (nomark _)))) (lss_nil)) (lss_one (ls_ret (le_cmp (op2_in ⟨_, c.hr⟩) (lv 1) (lgc T.g_KINDS) (by rfl))))))))
theorem fn_Reader_is_in_place (T : Tp w K mg base) : FnM P w K mg base 2 "Reader" "is_in_place" p_Reader_is_in_place (spA K mg m_Reader_is_in_place) := by
  obtain ⟨C, f, fd, F, hm, hM⟩ := T.f_Reader_is_in_place
  exact fnM_of hm hM (F.bindsN fun _ _ _ _ _ _ us hl => match us, hl with | [_, _], _ => rfl) (okDA F sc_Reader_is_in_place b_Reader_is_in_place (body_Reader_is_in_place T))
theorem body_Reader_read_line (T : Tp w K mg base) : BodyOE P w K mg base n_Reader_read_line "Reader.read_line" (defScope s_Reader_read_line) (defBody s_Reader_read_line) 16 b_Reader_read_line := by
  intro f cdv A outer s H E c
  delta b_Reader_read_line
  exact lss_cons (ls_if (lt_cmp (op2_eq ⟨_, c.hr⟩) (le_lenP (r := 0) (lp_fld (lp_name (i := 0) (by rfl) (by first | exact Or.inl rfl | exact Or.inr (Or.inl rfl) | exact Or.inr (Or.inr rfl)))) (by rfl) T.z_len rfl) (le_int) (nomark _)) (lss_cons (ls_expr (le_methA (r := 0) (fn_Reader_read_first T) c (by decide) (by simp) (by rfl) (by first | exact Or.inl rfl | exact Or.inr (Or.inl rfl) | exact Or.inr (Or.inr rfl)) (la_cons (lv 1) (la_cons (lv 2) (la_nil))))) (lss_one (ls_retN))) (lss_nil)) (lss_cons (ls_if (lt_not (lt_val (le_methA (r := 0) (fn_Reader_is_own T) c (by decide) (by simp) (by rfl) (by first | exact Or.inl rfl | exact Or.inr (Or.inl rfl) | exact Or.inr (Or.inr rfl)) (la_cons (le_ixV (i := 2) (by rfl) (by first | exact Or.inl rfl | exact Or.inr (Or.inl rfl) | exact Or.inr (Or.inr rfl)) (le_int) (fun _ _ => rfl)) (la_nil))))) (lss_one (ls_expr (le_methA0 (r := 0) (fn_Reader_end_rows T) c (by decide) (by simp) (by rfl) (by first | exact Or.inl rfl | exact Or.inr (Or.inl rfl) | exact Or.inr (Or.inr rfl))))) (lss_nil)) (lss_cons (ls_if (lt_niTab T.h_WORDS (le_ixV (i := 2) (by rfl) (by first | exact Or.inl rfl | exact Or.inr (Or.inl rfl) | exact Or.inr (Or.inr rfl)) (le_int) (fun _ _ => rfl))) (lss_one (ls_raise2' (ex_BadNet T) c (by decide) (by rfl) (la_cons (lv 1) (la_cons (le_str) (la_nil))))) (lss_nil)) (lss_cons (ls_if (lt_not (lt_val (le_methA (r := 0) (fn_Reader_is_in_place T) c (by decide) (by simp) (by rfl) (by first | exact Or.inl rfl | exact Or.inr (Or.inl rfl) | exact Or.inr (Or.inr rfl)) (la_cons (le_ixV (i := 2) (by rfl) (by first | exact Or.inl rfl | exact Or.inr (Or.inl rfl) | exact Or.inr (Or.inr rfl)) (le_int) (fun _ _ => rfl)) (la_nil))))) (lss_one (ls_raise2' (ex_BadNet T) c (by decide) (by rfl) (la_cons (lv 1) (la_cons (le_str) (la_nil))))) (lss_nil)) (lss_cons (ls_if (lt_not (lt_val (le_call (fn_is_count_right T) c (by decide) (by rfl) (la_cons (lv 2) (la_nil))))) (lss_one (ls_raise2' (ex_BadNet T) c (by decide) (by rfl) (la_cons (lv 1) (la_cons (le_str) (la_nil))))) (lss_nil)) (lss_cons (ls_set (i := 3) c.nd (by rfl) (by first | exact Or.inl rfl | exact Or.inr rfl) (by decide) (le_call (fn_numbers_of T) c (by decide) (by rfl) (la_cons (lv 1) (la_cons (lv 2) (la_nil))))) (lss_cons (ls_if (lt_val (le_methA (r := 0) (fn_Reader_is_full T) c (by decide) (by simp) (by rfl) (by first | exact Or.inl rfl | exact Or.inr (Or.inl rfl) | exact Or.inr (Or.inr rfl)) (la_cons (le_ixV (i := 2) (by rfl) (by first | exact Or.inl rfl | exact Or.inr (Or.inl rfl) | exact Or.inr (Or.inr rfl)) (le_int) (fun _ _ => rfl)) (la_nil)))) (lss_one (ls_raise2' (ex_BadNet T) c (by decide) (by rfl) (la_cons (lv 1) (la_cons (le_str) (la_nil))))) (lss_nil)) (lss_one (ls_expr (le_methA (r := 0) (fn_Reader_add_line T) c (by decide) (by simp) (by rfl) (by first | exact Or.inl rfl | exact Or.inr (Or.inl rfl) | exact Or.inr (Or.inr rfl)) (la_cons (lv 1) (la_cons (le_ixV (i := 2) (by rfl) (by first | exact Or.inl rfl | exact Or.inr (Or.inl rfl) | exact Or.inr (Or.inr rfl)) (le_int) (fun _ _ => rfl)) (la_cons (lv 3) (la_nil)))))))))))))
theorem fn_Reader_read_line (T : Tp w K mg base) : FnM P w K mg base 17 "Reader" "read_line" p_Reader_read_line (spA K mg m_Reader_read_line) := by
  obtain ⟨C, f, fd, F, hm, hM⟩ := T.f_Reader_read_line
  exact fnM_of hm hM (F.bindsN fun _ _ _ _ _ _ us hl => match us, hl with | [_, _, _], _ => rfl) (okDA F sc_Reader_read_line b_Reader_read_line (body_Reader_read_line T))
theorem body_parse (T : Tp w K mg base) : BodyT P w K mg base n_parse "parse" (defScope s_parse) [] (defBody s_parse) 17 b_parse := by
  intro f cdv A outer s H E hcd c
  delta b_parse
  exact lss_cons (ls_if (lt_cmp op2_gt (le_bn bn_lenT (by rfl) T.z_len (by decide +kernel) (la_cons (lv 0) (la_nil))) (lgi T.g_MOST_CHARACTERS) (nomark _)) (lss_one (ls_raise2' (ex_BadNet T) c (by decide) (by rfl) (la_cons (le_int) (la_cons (le_str) (la_nil))))) (lss_nil)) (lss_cons (ls_set (i := 1) c.nd (by rfl) (by first | exact Or.inl rfl | exact Or.inr rfl) (by decide) (le_SM nx_split PySem.F.slot_str_split PySem.F.type_str_split mt_split1 (lv 0) (le_str))) (lss_cons (ls_for c.ow c.hc (li_enum (by rfl) T.z_enumerate (la_cons (lv 1) (la_nil))) (lg_tup c.hc (lgs_cons (lg_name (i := 2) c.nd (by rfl) (by first | exact Or.inl rfl | exact Or.inr rfl) (by decide)) (lgs_cons (lg_name (i := 3) c.nd (by rfl) (by first | exact Or.inl rfl | exact Or.inr rfl) (by decide)) (lgs_nil)))) (lss_one (ls_if (lt_not (lt_val (le_allG (own := [("sign", 6)]) (j := 16) c (by decide) (by rfl) T.z_all hcd (li_str (lv 3)) (genOk_by (N := n_parse) (sc := defScope s_parse) (by decide +kernel)) (by decide) (fun _ _ _ _ _ _ _ c => lg_name (i := 6) c.nd (by rfl) (by first | exact Or.inl rfl | exact Or.inr rfl) (by decide)) (fun _ _ _ _ _ _ _ c => le_call (fn_is_allowed T) c (by decide) (by rfl) (la_cons (lv 6) (la_nil)))))) (lss_one (ls_raise2' (ex_BadNet T) c (by decide) (by rfl) (la_cons (le_op op2_add (lv 2) (le_int)) (la_cons (le_str) (la_nil))))) (lss_nil)))) (lss_cons (ls_MakeR (i := 4) (ca_Reader T) c (by decide) (by rfl) c.nd (by rfl) (by first | exact Or.inl rfl | exact Or.inr rfl) (by decide)) (lss_cons (ls_for c.ow c.hc (li_enum (by rfl) T.z_enumerate (la_cons (lv 1) (la_nil))) (lg_tup c.hc (lgs_cons (lg_name (i := 2) c.nd (by rfl) (by first | exact Or.inl rfl | exact Or.inr rfl) (by decide)) (lgs_cons (lg_name (i := 3) c.nd (by rfl) (by first | exact Or.inl rfl | exact Or.inr rfl) (by decide)) (lgs_nil)))) (lss_cons (ls_set (i := 5) c.nd (by rfl) (by first | exact Or.inl rfl | exact Or.inr rfl) (by decide) (le_call (fn_words_of T) c (by decide) (by rfl) (la_cons (lv 3) (la_nil)))) (lss_one (ls_if (lt_cmp op2_gt (le_bn bn_len (by rfl) T.z_len (by decide +kernel) (la_cons (lv 5) (la_nil))) (le_int) (nomark _)) (lss_one (ls_expr (le_methA (r := 4) (fn_Reader_read_line T) c (by decide) (by simp) (by rfl) (by first | exact Or.inl rfl | exact Or.inr (Or.inl rfl) | exact Or.inr (Or.inr rfl)) (la_cons (le_op op2_add (lv 2) (le_int)) (la_cons (lv 5) (la_nil)))))) (lss_nil))))) (lss_one (ls_ret (le_methA (r := 4) (fn_Reader_ended T) c (by decide) (by simp) (by rfl) (by first | exact Or.inl rfl | exact Or.inr (Or.inl rfl) | exact Or.inr (Or.inr rfl)) (la_cons (le_bn bn_len (by rfl) T.z_len (by decide +kernel) (la_cons (lv 1) (la_nil))) (la_nil)))))))))
theorem fn_parse (T : Tp w K mg base) : FnN P w K mg base 18 "parse" p_parse (spP K mg m_parse) := by
  obtain ⟨f, fd, F, hm, hT⟩ := T.f_parse
  exact fnN_of hm F.kp  (F.bindsN fun _ _ _ _ _ _ us hl => match us, hl with | [_], _ => rfl) (okDPt F sc_parse b_parse hT (body_parse T))
theorem body__law_cell (T : Tp w K mg base) : Body P w K mg base n__law_cell "_law_cell" (defScope s__law_cell) [] (defBody s__law_cell) 0 b__law_cell := by
  intro f cdv A outer s H E c
  delta b__law_cell
  exact lss_cons (ls_if (lt_cmp op2_lt (lv 1) (le_bn bn_len (by rfl) T.z_len (by decide +kernel) (la_cons (lv 0) (la_nil))) (nomark _)) (lss_one (ls_ret (le_ixV (i := 0) (by rfl) (by first | exact Or.inl rfl | exact Or.inr (Or.inl rfl) | exact Or.inr (Or.inr rfl)) (lv 1) (fun _ _ => rfl)))) (lss_nil)) (lss_one (ls_ret (le_int)))
theorem fn__law_cell (T : Tp w K mg base) : FnN P w K mg base 1 "_law_cell" p__law_cell (spP K mg m__law_cell) := by
  obtain ⟨f, fd, F, hm⟩ := T.f__law_cell
  exact fnN_of hm F.kp  (F.bindsN fun _ _ _ _ _ _ us hl => match us, hl with | [_, _], _ => rfl) (okDP F sc__law_cell b__law_cell (body__law_cell T))
theorem body__law_digits (T : Tp w K mg base) : Body P w K mg base n__law_digits "_law_digits" (defScope s__law_digits) [] (defBody s__law_digits) 1 b__law_digits := by
  intro f cdv A outer s H E c
  delta b__law_digits
  exact lss_cons (ls_own (i := 3) c.nd (by rfl) (by first | exact Or.inl rfl | exact Or.inr rfl) (by decide) (lo_lst (la_nil))) (lss_cons (ls_for c.ow c.hc (li_rng2 (by rfl) T.z_range (la_cons (lv 1) (la_cons (lv 2) (la_nil)))) (lg_name (i := 4) c.nd (by rfl) (by first | exact Or.inl rfl | exact Or.inr rfl) (by decide)) (lss_cons (ls_set (i := 5) c.nd (by rfl) (by first | exact Or.inl rfl | exact Or.inr rfl) (by decide) (le_call (fn__law_cell T) c (by decide) (by rfl) (la_cons (lv 0) (la_cons (lv 4) (la_nil))))) (lss_cons (ls_if (lt_cmp op2_lt (lv 5) (le_int) (nomark _)) (lss_one (ls_set (i := 5) c.nd (by rfl) (by first | exact Or.inl rfl | exact Or.inr rfl) (by decide) (le_op op2_sub (le_int) (le_op op2_mul (le_int) (lv 5))))) (lss_nil)) (lss_one (ls_if (lt_cmp op2_ge (lv 5) (le_op op2_pow (le_int) (le_int)) (nomark _)) (lss_one (ls_for c.ow c.hc (li_rng1 (by rfl) T.z_range (la_cons (le_int) (la_nil))) (lg_name (i := 6) c.nd (by rfl) (by first | exact Or.inl rfl | exact Or.inr rfl) (by decide)) (lss_one (ls_if (lt_cmp op2_gt (lv 5) (le_int) (nomark _)) (lss_cons (ls_app (i := 3) (by rfl) (by first | exact Or.inl rfl | exact Or.inr (Or.inl rfl) | exact Or.inr (Or.inr rfl)) (le_op op2_mod (le_bnT bn_int (by rfl) T.z_int (by decide +kernel) (la_cons (lv 5) (la_nil))) (le_int))) (lss_one (ls_set (i := 5) c.nd (by rfl) (by first | exact Or.inl rfl | exact Or.inr rfl) (by decide) (le_op op2_fdiv (lv 5) (le_int))))) (lss_nil))))) (lss_cons (ls_set (i := 7) c.nd (by rfl) (by first | exact Or.inl rfl | exact Or.inr rfl) (by decide) (le_op op2_mod (le_bnT bn_int (by rfl) T.z_int (by decide +kernel) (la_cons (le_op op2_add (le_op op2_add (le_op op2_mul (lv 5) (le_int)) (le_op op2_mul (lv 4) (le_int))) (le_int)) (la_nil))) (le_int))) (lss_one (ls_for c.ow c.hc (li_rng1 (by rfl) T.z_range (la_cons (le_int) (la_nil))) (lg_name (i := 6) c.nd (by rfl) (by first | exact Or.inl rfl | exact Or.inr rfl) (by decide)) (lss_cons (ls_set (i := 7) c.nd (by rfl) (by first | exact Or.inl rfl | exact Or.inr rfl) (by decide) (le_op op2_mod (le_bnT bn_int (by rfl) T.z_int (by decide +kernel) (la_cons (le_op op2_add (le_op op2_add (le_op op2_mul (lv 7) (le_int)) (le_op op2_mul (le_int) (lv 6))) (le_int)) (la_nil))) (le_int))) (lss_one (ls_app (i := 3) (by rfl) (by first | exact Or.inl rfl | exact Or.inr (Or.inl rfl) | exact Or.inr (Or.inr rfl)) (le_op op2_mod (le_bnT bn_int (by rfl) T.z_int (by decide +kernel) (la_cons (le_op op2_fdiv (lv 7) (le_int)) (la_nil))) (le_int))))))))))))) (lss_one (ls_ret (lv 3))))
theorem fn__law_digits (T : Tp w K mg base) : FnN P w K mg base 2 "_law_digits" p__law_digits (spP K mg m__law_digits) := by
  obtain ⟨f, fd, F, hm⟩ := T.f__law_digits
  exact fnN_of hm F.kp  (F.bindsN fun _ _ _ _ _ _ us hl => match us, hl with | [_, _, _], _ => rfl) (okDP F sc__law_digits b__law_digits (body__law_digits T))
theorem body__law_draw (T : Tp w K mg base) : Body P w K mg base n__law_draw "_law_draw" (defScope s__law_draw) [0] (defBody s__law_draw) 0 b__law_draw := by
  intro f cdv A outer s H E c
  delta b__law_draw
  exact lss_cons (ls_set (i := 2) c.nd (by rfl) (by first | exact Or.inl rfl | exact Or.inr rfl) (by decide) (le_ixV (i := 0) (by rfl) (by first | exact Or.inl rfl | exact Or.inr (Or.inl rfl) | exact Or.inr (Or.inr rfl)) (le_int) (fun _ _ => rfl))) (lss_cons (ls_asg (le_op op2_add (lv 2) (le_int)) (lg_ix (i := 0) (by rfl) (by first | exact Or.inl rfl | exact Or.inr (Or.inl rfl) | exact Or.inr (Or.inr rfl)) (le_int))) (lss_cons (ls_if (lt_cmp op2_lt (lv 2) (le_bn bn_len (by rfl) T.z_len (by decide +kernel) (la_cons (le_ixV (i := 0) (by rfl) (by first | exact Or.inl rfl | exact Or.inr (Or.inl rfl) | exact Or.inr (Or.inr rfl)) (le_int) (fun _ _ => rfl)) (la_nil))) (nomark _)) (lss_one (ls_ret (le_op op2_mod (le_bnT bn_int (by rfl) T.z_int (by decide +kernel) (la_cons (le_ix (le_ixV (i := 0) (by rfl) (by first | exact Or.inl rfl | exact Or.inr (Or.inl rfl) | exact Or.inr (Or.inr rfl)) (le_int) (fun _ _ => rfl)) (lv 2) (fun _ _ => rfl)) (la_nil))) (lv 1)))) (lss_nil)) (lss_one (ls_ret (le_int)))))
theorem fn__law_draw (T : Tp w K mg base) : FnN P w K mg base 1 "_law_draw" p__law_draw (spB K mg m__law_draw) := by
  obtain ⟨f, fd, F, hm⟩ := T.f__law_draw
  exact fnN_of hm F.kp  (F.bindsN fun _ _ _ _ _ _ us hl => match us, hl with | [_, _], _ => rfl) (okDB F sc__law_draw b__law_draw (body__law_draw T))
theorem body__law_read (T : Tp w K mg base) : Body P w K mg base n__law_read "_law_read" (defScope s__law_read) [] (defBody s__law_read) 18 b__law_read := by
  intro f cdv A outer s H E c
  delta b__law_read
  exact lss_cons ((match T.t_0 with | ⟨_, _, HH0⟩ => ls_tryG (i := 2) (catOk_one HH0) (suiteOk_cons (mm := fun fs => sSeq (sIfQ (bOr (bNot (bV (eIsC true))) (bOr (bNot (bV (eIsC true))) (bV (eB isiD (aCons (eFld fs "line") (aCons (eC (.ty "bool")) (aNil))))))) (sRetQ (eTup (aCons (eC (.str "other")) (aNil)))) (sNil)) (sRetQ (eTup (aCons (eFld fs "line") (aCons (eFld fs "reason") (aNil)))))) HH0 (fun fs _ _ _ _ hz hv => lxss_cons (lxs_if ((lxw_or (lxt_not (lxt_val (lx_isiO (q := "BadNet") (b := true) HH0 hz hv (by rfl) T.z_isinstance (by rfl) (by first | exact Or.inl rfl | exact Or.inr (Or.inl rfl) | exact Or.inr (Or.inr rfl)) (by simp) (by rfl)))) (lxw_or (lxt_not (lxt_val (lx_isiT (q := "ValueError") (b := true) HH0 hz hv (by rfl) T.z_isinstance (by rfl) (by first | exact Or.inl rfl | exact Or.inr (Or.inl rfl) | exact Or.inr (Or.inr rfl)) (by simp) (by rfl) T.z_ValueError (by decide +kernel)))) (lxw_or1 (lxt_val (lx_bnB bn_isi (by rfl) T.z_isinstance (by decide +kernel) (lxa_cons (lx_fld hz hv HH0.xf (HH0.no _ (by simp)) (by rfl) (by first | exact Or.inl rfl | exact Or.inr (Or.inl rfl) | exact Or.inr (Or.inr rfl))) (lxa_cons (LX.of_le (le_type (by rfl) T.z_bool (by decide +kernel))) (lxa_nil)))))))).lt) (lxss_one (lxs_ret (lx_tup (lxa_cons (LX.of_le (le_str)) (lxa_nil))))) (lxss_nil)) (lxss_one (lxs_ret (lx_tup (lxa_cons (lx_fld hz hv HH0.xf (HH0.no _ (by simp)) (by rfl) (by first | exact Or.inl rfl | exact Or.inr (Or.inl rfl) | exact Or.inr (Or.inr rfl))) (lxa_cons (lx_fld hz hv HH0.xf (HH0.no _ (by simp)) (by rfl) (by first | exact Or.inl rfl | exact Or.inr (Or.inl rfl) | exact Or.inr (Or.inr rfl))) (lxa_nil))))))) (suiteOk_nil)) c (fun _ _ _ c => lss_one (ls_set (i := 1) c.nd (by rfl) (by first | exact Or.inl rfl | exact Or.inr rfl) (by decide) (le_call (fn_parse T) c (by decide) (by rfl) (la_cons (lv 0) (la_nil))))) (by rfl) (by rfl) (by rfl) (by rfl) (by rfl) (by decide))) (lss_one (ls_ret (lv 1)))
theorem fn__law_read (T : Tp w K mg base) : FnN P w K mg base 19 "_law_read" p__law_read (spP K mg m__law_read) := by
  obtain ⟨f, fd, F, hm⟩ := T.f__law_read
  exact fnN_of hm F.kp  (F.bindsN fun _ _ _ _ _ _ us hl => match us, hl with | [_], _ => rfl) (okDP F sc__law_read b__law_read (body__law_read T))
theorem body__law_places (T : Tp w K mg base) : Body P w K mg base n__law_places "_law_places" (defScope s__law_places) [] (defBody s__law_places) 0 b__law_places := by
  intro f cdv A outer s H E c
  delta b__law_places
  exact lss_cons (ls_set (i := 0) c.nd (by rfl) (by first | exact Or.inl rfl | exact Or.inr rfl) (by decide) (le_str)) (lss_cons (ls_set (i := 1) c.nd (by rfl) (by first | exact Or.inl rfl | exact Or.inr rfl) (by decide) ((lo_lst (la_cons ((lo_lst (la_cons (le_str) (la_cons (lv 0) (la_nil)))).le) (la_cons ((lo_lst (la_cons (le_str) (la_cons (lv 0) (la_nil)))).le) (la_cons ((lo_lst (la_cons (le_str) (la_cons (lv 0) (la_nil)))).le) (la_cons ((lo_lst (la_cons (le_str) (la_cons (lv 0) (la_nil)))).le) (la_cons ((lo_lst (la_cons (le_str) (la_cons (lv 0) (la_nil)))).le) (la_cons ((lo_lst (la_cons (le_str) (la_cons (le_str) (la_nil)))).le) (la_nil)))))))).le)) (lss_cons (ls_set (i := 1) c.nd (by rfl) (by first | exact Or.inl rfl | exact Or.inr rfl) (by decide) (le_op op2_add (lv 1) ((lo_lst (la_cons ((lo_lst (la_cons (le_str) (la_cons (le_str) (la_nil)))).le) (la_cons ((lo_lst (la_cons (le_str) (la_cons (le_str) (la_nil)))).le) (la_cons ((lo_lst (la_cons (le_str) (la_cons (le_str) (la_nil)))).le) (la_cons ((lo_lst (la_cons (le_str) (la_cons (le_str) (la_nil)))).le) (la_nil)))))).le))) (lss_one (ls_ret (lv 1)))))
theorem fn__law_places (T : Tp w K mg base) : FnN P w K mg base 1 "_law_places" p__law_places (spP K mg m__law_places) := by
  obtain ⟨f, fd, F, hm⟩ := T.f__law_places
  exact fnN_of hm F.kp  (F.bindsN fun _ _ _ _ _ _ us hl => match us, hl with | [], _ => rfl) (okDP F sc__law_places b__law_places (body__law_places T))
theorem body__law_counts (T : Tp w K mg base) : Body P w K mg base n__law_counts "_law_counts" (defScope s__law_counts) [] (defBody s__law_counts) 0 b__law_counts := by
  intro f cdv A outer s H E c
  delta b__law_counts
  exact lss_cons (ls_set (i := 0) c.nd (by rfl) (by first | exact Or.inl rfl | exact Or.inr rfl) (by decide) (le_str)) (lss_cons (ls_set (i := 1) c.nd (by rfl) (by first | exact Or.inl rfl | exact Or.inr rfl) (by decide) ((lo_lst (la_cons ((lo_lst (la_cons (le_str) (la_cons (lv 0) (la_nil)))).le) (la_cons ((lo_lst (la_cons (le_str) (la_cons (lv 0) (la_nil)))).le) (la_cons ((lo_lst (la_cons (le_str) (la_cons (lv 0) (la_nil)))).le) (la_cons ((lo_lst (la_cons (le_str) (la_cons (lv 0) (la_nil)))).le) (la_cons ((lo_lst (la_cons (le_str) (la_cons (lv 0) (la_nil)))).le) (la_cons ((lo_lst (la_cons (le_str) (la_cons (lv 0) (la_nil)))).le) (la_cons ((lo_lst (la_cons (le_str) (la_cons (lv 0) (la_nil)))).le) (la_nil))))))))).le)) (lss_cons (ls_set (i := 1) c.nd (by rfl) (by first | exact Or.inl rfl | exact Or.inr rfl) (by decide) (le_op op2_add (lv 1) ((lo_lst (la_cons ((lo_lst (la_cons (le_str) (la_cons (lv 0) (la_nil)))).le) (la_cons ((lo_lst (la_cons (le_str) (la_cons (lv 0) (la_nil)))).le) (la_cons ((lo_lst (la_cons (le_str) (la_cons (lv 0) (la_nil)))).le) (la_nil))))).le))) (lss_one (ls_ret (lv 1)))))
theorem fn__law_counts (T : Tp w K mg base) : FnN P w K mg base 1 "_law_counts" p__law_counts (spP K mg m__law_counts) := by
  obtain ⟨f, fd, F, hm⟩ := T.f__law_counts
  exact fnN_of hm F.kp  (F.bindsN fun _ _ _ _ _ _ us hl => match us, hl with | [], _ => rfl) (okDP F sc__law_counts b__law_counts (body__law_counts T))
theorem body__law_numbers (T : Tp w K mg base) : Body P w K mg base n__law_numbers "_law_numbers" (defScope s__law_numbers) [] (defBody s__law_numbers) 0 b__law_numbers := by
  intro f cdv A outer s H E c
  delta b__law_numbers
  exact lss_cons (ls_set (i := 0) c.nd (by rfl) (by first | exact Or.inl rfl | exact Or.inr rfl) (by decide) (le_str)) (lss_cons (ls_set (i := 1) c.nd (by rfl) (by first | exact Or.inl rfl | exact Or.inr rfl) (by decide) (le_str)) (lss_cons (ls_set (i := 2) c.nd (by rfl) (by first | exact Or.inl rfl | exact Or.inr rfl) (by decide) ((lo_lst (la_cons ((lo_lst (la_cons (le_str) (la_cons (lv 0) (la_nil)))).le) (la_cons ((lo_lst (la_cons (le_str) (la_cons (lv 0) (la_nil)))).le) (la_cons ((lo_lst (la_cons (le_str) (la_cons (lv 0) (la_nil)))).le) (la_cons ((lo_lst (la_cons (le_str) (la_cons (lv 0) (la_nil)))).le) (la_cons ((lo_lst (la_cons (le_str) (la_cons (lv 0) (la_nil)))).le) (la_cons ((lo_lst (la_cons (le_str) (la_cons (lv 0) (la_nil)))).le) (la_nil)))))))).le)) (lss_cons (ls_set (i := 2) c.nd (by rfl) (by first | exact Or.inl rfl | exact Or.inr rfl) (by decide) (le_op op2_add (lv 2) ((lo_lst (la_cons ((lo_lst (la_cons (le_str) (la_cons (lv 0) (la_nil)))).le) (la_cons ((lo_lst (la_cons (le_str) (la_cons (lv 1) (la_nil)))).le) (la_cons ((lo_lst (la_cons (le_str) (la_cons (lv 1) (la_nil)))).le) (la_cons ((lo_lst (la_cons (le_str) (la_cons (lv 0) (la_nil)))).le) (la_nil)))))).le))) (lss_cons (ls_set (i := 2) c.nd (by rfl) (by first | exact Or.inl rfl | exact Or.inr rfl) (by decide) (le_op op2_add (lv 2) ((lo_lst (la_cons ((lo_lst (la_cons (le_str) (la_cons (lv 1) (la_nil)))).le) (la_cons ((lo_lst (la_cons (le_str) (la_cons (lv 1) (la_nil)))).le) (la_cons ((lo_lst (la_cons (le_str) (la_cons (lv 1) (la_nil)))).le) (la_cons ((lo_lst (la_cons (le_str) (la_cons (lv 1) (la_nil)))).le) (la_cons ((lo_lst (la_cons (le_str) (la_cons (lv 1) (la_nil)))).le) (la_cons ((lo_lst (la_cons (le_str) (la_cons (lv 0) (la_nil)))).le) (la_nil)))))))).le))) (lss_cons (ls_set (i := 2) c.nd (by rfl) (by first | exact Or.inl rfl | exact Or.inr rfl) (by decide) (le_op op2_add (lv 2) ((lo_lst (la_cons ((lo_lst (la_cons (le_str) (la_cons (lv 1) (la_nil)))).le) (la_cons ((lo_lst (la_cons (le_str) (la_cons (lv 1) (la_nil)))).le) (la_cons ((lo_lst (la_cons (le_str) (la_cons (lv 1) (la_nil)))).le) (la_cons ((lo_lst (la_cons (le_str) (la_cons (lv 0) (la_nil)))).le) (la_cons ((lo_lst (la_cons (le_str) (la_cons (lv 1) (la_nil)))).le) (la_nil))))))).le))) (lss_one (ls_ret (lv 2))))))))
theorem fn__law_numbers (T : Tp w K mg base) : FnN P w K mg base 1 "_law_numbers" p__law_numbers (spP K mg m__law_numbers) := by
  obtain ⟨f, fd, F, hm⟩ := T.f__law_numbers
  exact fnN_of hm F.kp  (F.bindsN fun _ _ _ _ _ _ us hl => match us, hl with | [], _ => rfl) (okDP F sc__law_numbers b__law_numbers (body__law_numbers T))
theorem body__law_rows (T : Tp w K mg base) : Body P w K mg base n__law_rows "_law_rows" (defScope s__law_rows) [] (defBody s__law_rows) 0 b__law_rows := by
  intro f cdv A outer s H E c
  delta b__law_rows
  exact lss_cons (ls_set (i := 0) c.nd (by rfl) (by first | exact Or.inl rfl | exact Or.inr rfl) (by decide) (le_str)) (lss_cons (ls_set (i := 1) c.nd (by rfl) (by first | exact Or.inl rfl | exact Or.inr rfl) (by decide) ((lo_lst (la_cons ((lo_lst (la_cons (le_str) (la_cons (lv 0) (la_nil)))).le) (la_cons ((lo_lst (la_cons (le_str) (la_cons (lv 0) (la_nil)))).le) (la_cons ((lo_lst (la_cons (le_str) (la_cons (lv 0) (la_nil)))).le) (la_cons ((lo_lst (la_cons (le_str) (la_cons (lv 0) (la_nil)))).le) (la_cons ((lo_lst (la_cons (le_str) (la_cons (lv 0) (la_nil)))).le) (la_nil))))))).le)) (lss_cons (ls_set (i := 1) c.nd (by rfl) (by first | exact Or.inl rfl | exact Or.inr rfl) (by decide) (le_op op2_add (lv 1) ((lo_lst (la_cons ((lo_lst (la_cons (le_str) (la_cons (le_str) (la_nil)))).le) (la_cons ((lo_lst (la_cons (le_str) (la_cons (le_str) (la_nil)))).le) (la_nil)))).le))) (lss_cons (ls_set (i := 1) c.nd (by rfl) (by first | exact Or.inl rfl | exact Or.inr rfl) (by decide) (le_op op2_add (lv 1) ((lo_lst (la_cons ((lo_lst (la_cons (le_str) (la_cons (le_str) (la_nil)))).le) (la_cons ((lo_lst (la_cons (le_str) (la_cons (le_str) (la_nil)))).le) (la_cons ((lo_lst (la_cons (le_str) (la_cons (le_str) (la_nil)))).le) (la_nil))))).le))) (lss_cons (ls_set (i := 1) c.nd (by rfl) (by first | exact Or.inl rfl | exact Or.inr rfl) (by decide) (le_op op2_add (lv 1) ((lo_lst (la_cons ((lo_lst (la_cons (le_str) (la_cons (le_str) (la_nil)))).le) (la_cons ((lo_lst (la_cons (le_str) (la_cons (le_str) (la_nil)))).le) (la_cons ((lo_lst (la_cons (le_str) (la_cons (le_str) (la_nil)))).le) (la_nil))))).le))) (lss_one (ls_ret (le_op op2_add (lv 1) ((lo_lst (la_cons ((lo_lst (la_cons (le_str) (la_cons (le_str) (la_nil)))).le) (la_cons ((lo_lst (la_cons (le_str) (la_cons (le_str) (la_nil)))).le) (la_cons ((lo_lst (la_cons (le_str) (la_cons (le_str) (la_nil)))).le) (la_nil))))).le))))))))
theorem fn__law_rows (T : Tp w K mg base) : FnN P w K mg base 1 "_law_rows" p__law_rows (spP K mg m__law_rows) := by
  obtain ⟨f, fd, F, hm⟩ := T.f__law_rows
  exact fnN_of hm F.kp  (F.bindsN fun _ _ _ _ _ _ us hl => match us, hl with | [], _ => rfl) (okDP F sc__law_rows b__law_rows (body__law_rows T))
theorem body__law_kernels (T : Tp w K mg base) : Body P w K mg base n__law_kernels "_law_kernels" (defScope s__law_kernels) [] (defBody s__law_kernels) 0 b__law_kernels := by
  intro f cdv A outer s H E c
  delta b__law_kernels
  exact lss_cons (ls_set (i := 0) c.nd (by rfl) (by first | exact Or.inl rfl | exact Or.inr rfl) (by decide) ((lo_lst (la_cons ((lo_lst (la_cons (le_str) (la_cons (le_str) (la_nil)))).le) (la_cons ((lo_lst (la_cons (le_str) (la_cons (le_str) (la_nil)))).le) (la_cons ((lo_lst (la_cons (le_str) (la_cons (le_str) (la_nil)))).le) (la_nil))))).le)) (lss_one (ls_ret (le_op op2_add (lv 0) ((lo_lst (la_cons ((lo_lst (la_cons (le_str) (la_cons (le_str) (la_nil)))).le) (la_cons ((lo_lst (la_cons (le_str) (la_cons (le_str) (la_nil)))).le) (la_nil)))).le))))
theorem fn__law_kernels (T : Tp w K mg base) : FnN P w K mg base 1 "_law_kernels" p__law_kernels (spP K mg m__law_kernels) := by
  obtain ⟨f, fd, F, hm⟩ := T.f__law_kernels
  exact fnN_of hm F.kp  (F.bindsN fun _ _ _ _ _ _ us hl => match us, hl with | [], _ => rfl) (okDP F sc__law_kernels b__law_kernels (body__law_kernels T))
theorem body__law_ahead (T : Tp w K mg base) : Body P w K mg base n__law_ahead "_law_ahead" (defScope s__law_ahead) [0] (defBody s__law_ahead) 1 b__law_ahead := by
  intro f cdv A outer s H E c
  delta b__law_ahead
  exact lss_cons (ls_if (lt_cmp (op2_eq ⟨_, c.hr⟩) (lv 1) (le_int) (nomark _)) (lss_one (ls_ret ((lo_lst (la_cons (le_slice ((lo_lst (la_cons (le_str) (la_cons (le_str) (la_cons (le_str) (la_cons (le_str) (la_cons (le_str) (la_nil))))))).le) (lp_none) (lp_some (le_callB (i := 0) (fn__law_draw T) c (by decide) (by rfl) (by rfl) (by first | exact Or.inl rfl | exact Or.inr (Or.inl rfl) | exact Or.inr (Or.inr rfl)) (la_cons (le_int) (la_nil))))) (la_cons (le_op op2_add (le_call0 (fn__law_places T) c (by decide) (by rfl)) (le_call0 (fn__law_counts T) c (by decide) (by rfl))) (la_cons (le_str) (la_nil))))).le))) (lss_nil)) (lss_cons (ls_if (lt_cmp (op2_eq ⟨_, c.hr⟩) (lv 1) (le_int) (nomark _)) (lss_one (ls_ret ((lo_lst (la_cons (le_slice ((lo_lst (la_cons (le_str) (la_cons (le_str) (la_nil)))).le) (lp_none) (lp_some (le_callB (i := 0) (fn__law_draw T) c (by decide) (by rfl) (by rfl) (by first | exact Or.inl rfl | exact Or.inr (Or.inl rfl) | exact Or.inr (Or.inr rfl)) (la_cons (le_int) (la_nil))))) (la_cons (le_call0 (fn__law_numbers T) c (by decide) (by rfl)) (la_cons (le_str) (la_nil))))).le))) (lss_nil)) (lss_cons (ls_if (lt_cmp (op2_eq ⟨_, c.hr⟩) (lv 1) (le_int) (nomark _)) (lss_one (ls_ret ((lo_lst (la_cons ((lo_lst (la_cons (le_str) (la_nil))).le) (la_cons (le_call0 (fn__law_rows T) c (by decide) (by rfl)) (la_cons (le_str) (la_nil))))).le))) (lss_nil)) (lss_cons (ls_if (lt_cmp (op2_eq ⟨_, c.hr⟩) (lv 1) (le_int) (nomark _)) (lss_one (ls_ret ((lo_lst (la_cons ((lo_lst (la_cons (le_str) (la_nil))).le) (la_cons (le_call0 (fn__law_kernels T) c (by decide) (by rfl)) (la_cons (le_str) (la_nil))))).le))) (lss_nil)) (lss_cons (ls_if (lt_cmp (op2_eq ⟨_, c.hr⟩) (lv 1) (le_int) (nomark _)) (lss_cons (ls_set (i := 2) c.nd (by rfl) (by first | exact Or.inl rfl | exact Or.inr rfl) (by decide) ((lo_lst (la_cons ((lo_lst (la_cons (le_str) (la_cons (le_str) (la_nil)))).le) (la_cons ((lo_lst (la_cons (le_str) (la_cons (le_str) (la_nil)))).le) (la_cons ((lo_lst (la_cons (le_str) (la_cons (le_str) (la_nil)))).le) (la_cons ((lo_lst (la_cons (le_str) (la_cons (le_str) (la_nil)))).le) (la_nil)))))).le)) (lss_one (ls_ret ((lo_lst (la_cons ((lo_lst (la_cons (le_str) (la_cons (le_str) (la_nil)))).le) (la_cons (lv 2) (la_cons (le_str) (la_nil))))).le)))) (lss_nil)) (lss_cons (ls_set (i := 2) c.nd (by rfl) (by first | exact Or.inl rfl | exact Or.inr rfl) (by decide) ((lo_lst (la_cons ((lo_lst (la_cons (le_str) (la_cons (le_str) (la_nil)))).le) (la_cons ((lo_lst (la_cons (le_str) (la_cons (le_str) (la_nil)))).le) (la_cons ((lo_lst (la_cons (le_str) (la_cons (le_str) (la_nil)))).le) (la_cons ((lo_lst (la_cons (le_str) (la_cons (le_str) (la_nil)))).le) (la_nil)))))).le)) (lss_one (ls_ret ((lo_lst (la_cons ((lo_lst (la_cons (le_str) (la_cons (le_str) (la_cons (le_str) (la_cons (le_str) (la_nil)))))).le) (la_cons (lv 2) (la_cons (le_str) (la_nil))))).le))))))))
theorem fn__law_ahead (T : Tp w K mg base) : FnN P w K mg base 2 "_law_ahead" p__law_ahead (spB K mg m__law_ahead) := by
  obtain ⟨f, fd, F, hm⟩ := T.f__law_ahead
  exact fnN_of hm F.kp  (F.bindsN fun _ _ _ _ _ _ us hl => match us, hl with | [_, _], _ => rfl) (okDB F sc__law_ahead b__law_ahead (body__law_ahead T))
theorem body__law_ends (T : Tp w K mg base) : Body P w K mg base n__law_ends "_law_ends" (defScope s__law_ends) [0] (defBody s__law_ends) 19 b__law_ends := by
  intro f cdv A outer s H E c
  delta b__law_ends
  exact lss_cons (ls_set (i := 1) c.nd (by rfl) (by first | exact Or.inl rfl | exact Or.inr rfl) (by decide) ((lo_lst (la_cons (le_str) (la_cons (le_str) (la_cons (le_str) (la_cons (le_str) (la_cons (le_str) (la_nil))))))).le)) (lss_cons (ls_set (i := 2) c.nd (by rfl) (by first | exact Or.inl rfl | exact Or.inr rfl) (by decide) (le_callB (i := 0) (fn__law_draw T) c (by decide) (by rfl) (by rfl) (by first | exact Or.inl rfl | exact Or.inr (Or.inl rfl) | exact Or.inr (Or.inr rfl)) (la_cons (le_int) (la_nil)))) (lss_cons (ls_set (i := 3) c.nd (by rfl) (by first | exact Or.inl rfl | exact Or.inr rfl) (by decide) (le_joinS pe_str (le_slice (lv 1) (lp_none) (lp_some (lv 2))))) (lss_cons (ls_set (i := 4) c.nd (by rfl) (by first | exact Or.inl rfl | exact Or.inr rfl) (by decide) (le_tup (la_cons (le_bn (bn_max c.hc) (by rfl) T.z_max (by decide +kernel) (la_cons (lv 2) (la_cons (le_int) (la_nil)))) (la_cons (le_str) (la_nil))))) (lss_cons (ls_set (i := 5) c.nd (by rfl) (by first | exact Or.inl rfl | exact Or.inr rfl) (by decide) (le_callB (i := 0) (fn__law_draw T) c (by decide) (by rfl) (by rfl) (by first | exact Or.inl rfl | exact Or.inr (Or.inl rfl) | exact Or.inr (Or.inr rfl)) (la_cons (le_int) (la_nil)))) (lss_cons (ls_if (lt_cmp (op2_eq ⟨_, c.hr⟩) (lv 5) (le_int) (nomark _)) (lss_one (ls_ret (le_cmp (op2_eq ⟨_, c.hr⟩) (le_call (fn__law_read T) c (by decide) (by rfl) (la_cons (le_op op2_add (lv 3) (le_str)) (la_nil))) (le_tup (la_cons (le_op op2_add (le_op op2_add (le_ixV (i := 4) (by rfl) (by first | exact Or.inl rfl | exact Or.inr (Or.inl rfl) | exact Or.inr (Or.inr rfl)) (le_int) (fun _ _ => rfl)) (le_bnT bn_int (by rfl) T.z_int (by decide +kernel) (la_cons (le_cmp op2_gt (lv 2) (le_int) (nomark _)) (la_nil)))) (le_bnT bn_int (by rfl) T.z_int (by decide +kernel) (la_cons (le_cmp (op2_eq ⟨_, c.hr⟩) (lv 2) (le_int) (nomark _)) (la_nil)))) (la_cons (le_str) (la_nil)))) (nomark _)))) (lss_nil)) (lss_cons (ls_if (lt_cmp (op2_eq ⟨_, c.hr⟩) (lv 5) (le_int) (nomark _)) (lss_one (ls_ret (le_cmp (op2_eq ⟨_, c.hr⟩) (le_call (fn__law_read T) c (by decide) (by rfl) (la_cons (le_str) (la_nil))) (le_tup (la_cons (le_int) (la_cons (le_str) (la_nil)))) (nomark _)))) (lss_nil)) (lss_cons (ls_if (lt_cmp (op2_eq ⟨_, c.hr⟩) (lv 5) (le_int) (nomark _)) (lss_one (ls_ret (le_cmp (op2_eq ⟨_, c.hr⟩) (le_call (fn__law_read T) c (by decide) (by rfl) (la_cons (le_op op2_add (le_op op2_mulYD (le_str) (lv 2)) (le_ix ((lo_lst (la_cons (le_str) (la_cons (le_str) (la_cons (le_str) (la_cons (le_str) (la_nil)))))).le) (le_callB (i := 0) (fn__law_draw T) c (by decide) (by rfl) (by rfl) (by first | exact Or.inl rfl | exact Or.inr (Or.inl rfl) | exact Or.inr (Or.inr rfl)) (la_cons (le_int) (la_nil))) (fun _ _ => rfl))) (la_nil))) (le_tup (la_cons (le_op op2_add (lv 2) (le_int)) (la_cons (le_str) (la_nil)))) (nomark _)))) (lss_nil)) (lss_cons (ls_if (lt_cmp (op2_eq ⟨_, c.hr⟩) (lv 5) (le_int) (nomark _)) (lss_one (ls_ret (le_cmp (op2_eq ⟨_, c.hr⟩) (le_call (fn__law_read T) c (by decide) (by rfl) (la_cons (le_op op2_add (le_op op2_add (le_op op2_add (le_str) (le_op op2_mulYD (le_str) (lv 2))) (le_str)) (le_str)) (la_nil))) (le_tup (la_cons (le_op op2_add (lv 2) (le_int)) (la_cons (le_str) (la_nil)))) (nomark _)))) (lss_nil)) (lss_one (ls_ret (le_cmp (op2_eq ⟨_, c.hr⟩) (le_call (fn__law_read T) c (by decide) (by rfl) (la_cons (lv 3) (la_nil))) (lv 4) (nomark _))))))))))))
theorem fn__law_ends (T : Tp w K mg base) : FnN P w K mg base 20 "_law_ends" p__law_ends (spB K mg m__law_ends) := by
  obtain ⟨f, fd, F, hm⟩ := T.f__law_ends
  exact fnN_of hm F.kp  (F.bindsN fun _ _ _ _ _ _ us hl => match us, hl with | [_], _ => rfl) (okDB F sc__law_ends b__law_ends (body__law_ends T))
theorem body__law_parts (T : Tp w K mg base) : Body P w K mg base n__law_parts "_law_parts" (defScope s__law_parts) [0] (defBody s__law_parts) 19 b__law_parts := by
  intro f cdv A outer s H E c
  delta b__law_parts
  exact lss_cons (ls_set (i := 1) c.nd (by rfl) (by first | exact Or.inl rfl | exact Or.inr rfl) (by decide) (le_callB (i := 0) (fn__law_draw T) c (by decide) (by rfl) (by rfl) (by first | exact Or.inl rfl | exact Or.inr (Or.inl rfl) | exact Or.inr (Or.inr rfl)) (la_cons (le_int) (la_nil)))) (lss_cons (ls_if (lt_cmp (op2_eq ⟨_, c.hr⟩) (lv 1) (le_int) (nomark _)) (lss_one (ls_ret (le_cmp (op2_eq ⟨_, c.hr⟩) (le_call (fn__law_read T) c (by decide) (by rfl) (la_cons (le_op op2_add (le_op op2_add (le_str) (le_op op2_mulYD (le_str) (le_int))) (le_str)) (la_nil))) (le_tup (la_cons (le_int) (la_cons (le_str) (la_nil)))) (nomark _)))) (lss_nil)) (lss_cons (ls_if (lt_cmp (op2_eq ⟨_, c.hr⟩) (lv 1) (le_int) (nomark _)) (lss_one (ls_ret (le_cmp (op2_eq ⟨_, c.hr⟩) (le_call (fn__law_read T) c (by decide) (by rfl) (la_cons (le_op op2_add (le_op op2_add (le_str) (le_op op2_mulYD (le_str) (le_int))) (le_str)) (la_nil))) (le_tup (la_cons (le_int) (la_cons (le_str) (la_nil)))) (nomark _)))) (lss_nil)) (lss_cons (ls_if (lt_cmp (op2_eq ⟨_, c.hr⟩) (lv 1) (le_int) (nomark _)) (lss_one (ls_ret (le_cmp (op2_eq ⟨_, c.hr⟩) (le_call (fn__law_read T) c (by decide) (by rfl) (la_cons (le_op op2_add (le_op op2_add (le_str) (le_op op2_mulYD (le_str) (le_int))) (le_str)) (la_nil))) (le_tup (la_cons (le_int) (la_cons (le_str) (la_nil)))) (nomark _)))) (lss_nil)) (lss_cons (ls_if (lt_cmp (op2_eq ⟨_, c.hr⟩) (lv 1) (le_int) (nomark _)) (lss_one (ls_ret (le_cmp (op2_eq ⟨_, c.hr⟩) (le_call (fn__law_read T) c (by decide) (by rfl) (la_cons (le_op op2_add (le_op op2_add (le_str) (le_op op2_mulYD (le_str) (le_int))) (le_str)) (la_nil))) (le_tup (la_cons (le_int) (la_cons (le_str) (la_nil)))) (nomark _)))) (lss_nil)) (lss_cons (ls_if (lt_cmp (op2_eq ⟨_, c.hr⟩) (lv 1) (le_int) (nomark _)) (lss_one (ls_ret (le_cmp (op2_eq ⟨_, c.hr⟩) (le_call (fn__law_read T) c (by decide) (by rfl) (la_cons (le_op op2_add (le_op op2_add (le_str) (le_op op2_mulYD (le_str) (le_int))) (le_str)) (la_nil))) (le_tup (la_cons (le_int) (la_cons (le_str) (la_nil)))) (nomark _)))) (lss_nil)) (lss_cons (ls_set (i := 2) c.nd (by rfl) (by first | exact Or.inl rfl | exact Or.inr rfl) (by decide) (le_op op2_add (le_int) (le_callB (i := 0) (fn__law_draw T) c (by decide) (by rfl) (by rfl) (by first | exact Or.inl rfl | exact Or.inr (Or.inl rfl) | exact Or.inr (Or.inr rfl)) (la_cons (le_int) (la_nil))))) (lss_cons (ls_set (i := 3) c.nd (by rfl) (by first | exact Or.inl rfl | exact Or.inr rfl) (by decide) (le_str)) (lss_cons (ls_set (i := 4) c.nd (by rfl) (by first | exact Or.inl rfl | exact Or.inr rfl) (by decide) (le_tup (la_cons (le_str) (la_cons (le_int) (la_cons (le_tup (la_nil)) (la_nil)))))) (lss_cons (ls_if (lt_cmp op2_gt (lv 2) (le_int) (nomark _)) (lss_one (ls_set (i := 4) c.nd (by rfl) (by first | exact Or.inl rfl | exact Or.inr rfl) (by decide) (le_tup (la_cons (le_int) (la_cons (le_str) (la_nil)))))) (lss_nil)) (lss_one (ls_ret (le_cmp (op2_eq ⟨_, c.hr⟩) (le_call (fn__law_read T) c (by decide) (by rfl) (la_cons (le_op op2_add (lv 3) (le_op op2_mulYD (le_str) (le_op op2_sub (lv 2) (le_bn bn_len (by rfl) T.z_len (by decide +kernel) (la_cons (lv 3) (la_nil)))))) (la_nil))) (lv 4) (nomark _)))))))))))))
theorem fn__law_parts (T : Tp w K mg base) : FnN P w K mg base 20 "_law_parts" p__law_parts (spB K mg m__law_parts) := by
  obtain ⟨f, fd, F, hm⟩ := T.f__law_parts
  exact fnN_of hm F.kp  (F.bindsN fun _ _ _ _ _ _ us hl => match us, hl with | [_], _ => rfl) (okDB F sc__law_parts b__law_parts (body__law_parts T))
theorem body_law (T : Tp w K mg base) : Body P w K mg base n_law "law" (defScope s_law) [] (defBody s_law) 20 b_law := by
  intro f cdv A outer s H E c
  delta b_law
  exact lss_cons (ls_own (i := 1) c.nd (by rfl) (by first | exact Or.inl rfl | exact Or.inr rfl) (by decide) (lo_lst (la_cons (le_call (fn__law_digits T) c (by decide) (by rfl) (la_cons (lv 0) (la_cons (le_int) (la_cons (le_int) (la_nil))))) (la_cons (le_int) (la_nil))))) (lss_cons (ls_set (i := 2) c.nd (by rfl) (by first | exact Or.inl rfl | exact Or.inr rfl) (by decide) (le_callB (i := 1) (fn__law_ahead T) c (by decide) (by rfl) (by rfl) (by first | exact Or.inl rfl | exact Or.inr (Or.inl rfl) | exact Or.inr (Or.inr rfl)) (la_cons (le_callB (i := 1) (fn__law_draw T) c (by decide) (by rfl) (by rfl) (by first | exact Or.inl rfl | exact Or.inr (Or.inl rfl) | exact Or.inr (Or.inr rfl)) (la_cons (le_int) (la_nil))) (la_nil)))) (lss_cons (ls_own (i := 3) c.nd (by rfl) (by first | exact Or.inl rfl | exact Or.inr rfl) (by decide) (lo_add (le_slice ((lo_lst (la_cons (le_str) (la_cons (le_str) (la_cons (le_str) (la_nil))))).le) (lp_none) (lp_some (le_callB (i := 1) (fn__law_draw T) c (by decide) (by rfl) (by rfl) (by first | exact Or.inl rfl | exact Or.inr (Or.inl rfl) | exact Or.inr (Or.inr rfl)) (la_cons (le_int) (la_nil))))) ((lo_lst (la_cons (le_str) (la_nil))).le))) (lss_cons (ls_for c.ow c.hc (li_any (le_ixV (i := 2) (by rfl) (by first | exact Or.inl rfl | exact Or.inr (Or.inl rfl) | exact Or.inr (Or.inr rfl)) (le_int) (fun _ _ => rfl))) (lg_name (i := 4) c.nd (by rfl) (by first | exact Or.inl rfl | exact Or.inr rfl) (by decide)) (lss_cons (ls_app (i := 3) (by rfl) (by first | exact Or.inl rfl | exact Or.inr (Or.inl rfl) | exact Or.inr (Or.inr rfl)) (lv 4)) (lss_one (ls_if (lt_cmp (op2_eq ⟨_, c.hr⟩) (le_callB (i := 1) (fn__law_draw T) c (by decide) (by rfl) (by rfl) (by first | exact Or.inl rfl | exact Or.inr (Or.inl rfl) | exact Or.inr (Or.inr rfl)) (la_cons (le_int) (la_nil))) (le_int) (nomark _)) (lss_one (ls_app (i := 3) (by rfl) (by first | exact Or.inl rfl | exact Or.inr (Or.inl rfl) | exact Or.inr (Or.inr rfl)) (le_str))) (lss_nil))))) (lss_cons (ls_set (i := 5) c.nd (by rfl) (by first | exact Or.inl rfl | exact Or.inr rfl) (by decide) (le_ix (le_ixV (i := 2) (by rfl) (by first | exact Or.inl rfl | exact Or.inr (Or.inl rfl) | exact Or.inr (Or.inr rfl)) (le_int) (fun _ _ => rfl)) (le_op op2_mod (le_bnT bn_int (by rfl) T.z_int (by decide +kernel) (la_cons (le_callB (i := 1) (fn__law_draw T) c (by decide) (by rfl) (by rfl) (by first | exact Or.inl rfl | exact Or.inr (Or.inl rfl) | exact Or.inr (Or.inr rfl)) (la_cons (le_int) (la_nil))) (la_nil))) (le_bn bn_len (by rfl) T.z_len (by decide +kernel) (la_cons (le_ixV (i := 2) (by rfl) (by first | exact Or.inl rfl | exact Or.inr (Or.inl rfl) | exact Or.inr (Or.inr rfl)) (le_int) (fun _ _ => rfl)) (la_nil)))) (fun _ _ => rfl))) (lss_cons (ls_set (i := 6) c.nd (by rfl) (by first | exact Or.inl rfl | exact Or.inr rfl) (by decide) (le_joinS pe_str (le_op op2_add (lv 3) ((lo_lst (la_cons (le_ixV (i := 5) (by rfl) (by first | exact Or.inl rfl | exact Or.inr (Or.inl rfl) | exact Or.inr (Or.inr rfl)) (le_int) (fun _ _ => rfl)) (la_cons (le_str) (la_cons (le_str) (la_nil))))).le)))) (lss_cons (ls_if (lt_cmp (op2_ne ⟨_, c.hr⟩) (le_call (fn__law_read T) c (by decide) (by rfl) (la_cons (lv 6) (la_nil))) (le_tup (la_cons (le_op op2_add (le_lenV (i := 3) (by rfl) (by first | exact Or.inl rfl | exact Or.inr (Or.inl rfl) | exact Or.inr (Or.inr rfl)) (by rfl) T.z_len boot_len) (le_int)) (la_cons (le_ixV (i := 5) (by rfl) (by first | exact Or.inl rfl | exact Or.inr (Or.inl rfl) | exact Or.inr (Or.inr rfl)) (le_int) (fun _ _ => rfl)) (la_nil)))) (nomark _)) (lss_one (ls_ret (le_bl))) (lss_nil)) (lss_cons (ls_set (i := 7) c.nd (by rfl) (by first | exact Or.inl rfl | exact Or.inr rfl) (by decide) (le_call (fn__law_read T) c (by decide) (by rfl) (la_cons (le_joinS pe_str (le_op op2_add (lv 3) ((lo_lst (la_cons (le_ixV (i := 2) (by rfl) (by first | exact Or.inl rfl | exact Or.inr (Or.inl rfl) | exact Or.inr (Or.inr rfl)) (le_int) (fun _ _ => rfl)) (la_cons (le_str) (la_cons (le_str) (la_nil))))).le))) (la_nil)))) (lss_cons (ls_if (lt_cmp (op2_ne ⟨_, c.hr⟩) (lv 7) (le_tup (la_cons (le_op op2_add (le_lenV (i := 3) (by rfl) (by first | exact Or.inl rfl | exact Or.inr (Or.inl rfl) | exact Or.inr (Or.inr rfl)) (by rfl) T.z_len boot_len) (le_int)) (la_cons (le_str) (la_nil)))) (nomark _)) (lss_one (ls_ret (le_bl))) (lss_nil)) (lss_one (ls_ret (le_and (le_callB (i := 1) (fn__law_ends T) c (by decide) (by rfl) (by rfl) (by first | exact Or.inl rfl | exact Or.inr (Or.inl rfl) | exact Or.inr (Or.inr rfl)) (la_nil)) (le_one (le_callB (i := 1) (fn__law_parts T) c (by decide) (by rfl) (by rfl) (by first | exact Or.inl rfl | exact Or.inr (Or.inl rfl) | exact Or.inr (Or.inr rfl)) (la_nil))))))))))))))
theorem fn_law (T : Tp w K mg base) : FnN P w K mg base 21 "law" p_law (spP K mg m_law) := by
  obtain ⟨f, fd, F, hm⟩ := T.f_law
  exact fnN_of hm F.kp  (F.bindsN fun _ _ _ _ _ _ us hl => match us, hl with | [_], _ => rfl) (okDP F sc_law b_law (body_law T))
end
end LAW

section
section
open PySem L2 ML
local instance : Tabs := ⟨fun _ => False⟩
namespace LAW
theorem cell_ok (ns : List Int) {k : Int} (h : 0 ≤ k) : m__law_cell [.klst (ns.map D.int), .int k] = .ok (.int (ns.getD k.toNat 0)) := by
  unfold m__law_cell
  rw [runP_if]
  by_cases hk : k < (ns.length : Int)
  · have e : (ns.map D.int)[k.toNat]? = some (D.int (ns.getD k.toNat 0)) := by
      have : k.toNat < ns.length := by omega
      rw [List.getElem?_map, List.getD_eq_getElem?_getD, List.getElem?_eq_getElem this]; rfl
    simp [b__law_cell, startE, hk, atD_int h e]
  · have e : ns.getD k.toNat 0 = 0 := by
      rw [List.getD_eq_getElem?_getD, List.getElem?_eq_none (by omega)]; rfl
    simp [b__law_cell, startE, hk]
    rw [List.getElem?_eq_none (by omega)]; rfl
theorem powD_lit : powD (.int 10) (.int 18) = .ok (.int 1000000000000000000) := by
  have : powD (.int 10) (.int 18) = if (0:Int) ≤ 18 ∧ (18:Int) ≤ 1000000 ∧ (10:Int).natAbs < 2 ^ 64 then .ok (.int (10 ^ (18:Int).toNat)) else .stuck := rfl
  rw [this, if_pos (by decide +kernel)]
  rfl
theorem fd1000 (a : Int) : fdivD (.int a) (.int 1000) = .ok (.int (a / 1000)) := fdivD_int (by decide) (by decide)
theorem fd997 (a : Int) : fdivD (.int a) (.int 997) = .ok (.int (a / 997)) := fdivD_int (by decide) (by decide)
theorem md {a b : Int} (h : 0 < b) : modD (.int a) (.int b) = .ok (.int (a % b)) := modD_int h
theorem rng1_nat (n : Nat) (h : n ≤ 1000000000) : rng1 [.int (n : Int)] = .ok ((List.range n).map fun (i : Nat) => D.int (i : Int)) := by
  have : rng1 [.int (n : Int)] = if -(2 ^ 62) ≤ (n : Int) ∧ (n : Int) < 2 ^ 62 then .ok (mRng n 0) else .stuck := rfl
  rw [this, if_pos ⟨by omega, by omega⟩]
  unfold mRng
  simp only [Int.zero_add, Int.toNat_natCast]
theorem rng_at {n i : Nat} {d : D} (h : ((List.range n).map fun (i : Nat) => D.int (i : Int))[i]? = some d) : d = .int (i : Int) ∧ i < n := by
  rw [List.getElem?_map] at h
  by_cases hi : i < n
  · rw [List.getElem?_range hi] at h
    exact ⟨(Option.some.inj h).symm, hi⟩
  · rw [List.getElem?_eq_none (by simpa using hi)] at h; cases h
def Box (ds : List Int) (bs : List D) : Prop := ∃ n : Nat, bs = [.lst (ds.map D.int), .int (n : Int)]
theorem draw_ok {ds : List Int} {bs : List D} (B : Box ds bs) {many : Int} (h : 0 < many) :
    ∃ v bs', m__law_draw bs [.int many] = .ok (.int v, bs') ∧ Box ds bs' ∧ 0 ≤ v ∧ v < many := by
  obtain ⟨n, rfl⟩ := B
  have e0 : ∀ a b : D, atD [a, b] 0 = .ok a := fun a b => rfl
  have e1 : ∀ a b : D, atD [a, b] 1 = .ok b := fun a b => rfl
  have i1 : ixN 2 1 = some 1 := rfl
  by_cases hn : n < ds.length
  · have e : atD (ds.map D.int) (n : Int) = .ok (.int (ds[n])) := atD_nat (by simp [hn])
    refine ⟨ds[n] % many, [.lst (ds.map D.int), .int ((n + 1 : Nat) : Int)], ?_, ⟨n + 1, rfl⟩, Int.emod_nonneg _ (by omega), Int.emod_lt_of_pos _ h⟩
    unfold m__law_draw
    rw [runB_if]
    simp [b__law_draw, startE, e0, e1, i1, hn, ixD, e, md h]
  · refine ⟨0, [.lst (ds.map D.int), .int ((n + 1 : Nat) : Int)], ?_, ⟨n + 1, rfl⟩, by omega, h⟩
    unfold m__law_draw
    rw [runB_if]
    simp [b__law_draw, startE, e0, e1, i1, hn]
theorem ap_lt {ds : List Int} {n : Nat} (h : ds.length ≤ n) (hn : n < 16777216) : (ds.map D.int).length < sizeLine := by
  rw [List.length_map]
  exact Nat.lt_of_le_of_lt h (Nat.lt_of_lt_of_le hn (by decide))
theorem app_map (ds : List Int) (d : Int) : ds.map D.int ++ [D.int d] = (ds ++ [d]).map D.int := by simp
/-- the digits of one cell -/
theorem big_ok (s : List (Option MV)) (hs : s.length = 3) (t7 : Option MV) (k : Int) (ds : List Int) (n : Nat) (hl : ds.length ≤ n) (hn : n + 60 ≤ 1000000) (t : Option MV) (t6 : Option MV) :
    ∃ (ds' : List Int) (t5 t6' : Option MV), loop (gN 6) (sIf (bV (e2 gtD (eVar 5) (eC (.int (0))))) (sSeq (sApp 3 (e2 modD (eB intD (aCons (eVar 5) (aNil))) (eC (.int (1000))))) (sSet 5 (e2 fdivD (eVar 5) (eC (.int (1000)))))) (sNil)) ((List.range 60).map fun (i : Nat) => D.int (i : Int)) (s ++ [some (.own (ds.map D.int)), t, some (.dat (.int k)), t6, t7]) = .ok (.nx (s ++ [some (.own (ds'.map D.int)), t, t5, t6', t7])) ∧ ds'.length ≤ n + 60 := by
  obtain ⟨a, b, c, rfl⟩ : ∃ a b c, s = [a, b, c] := by
    match s, hs with
    | [a, b, c], _ => exact ⟨a, b, c, rfl⟩
  obtain ⟨ρ', el, ds', k', t6', rfl, l'⟩ := loop_inv (g := gN 6) (b := (sIf (bV (e2 gtD (eVar 5) (eC (.int (0))))) (sSeq (sApp 3 (e2 modD (eB intD (aCons (eVar 5) (aNil))) (eC (.int (1000))))) (sSet 5 (e2 fdivD (eVar 5) (eC (.int (1000)))))) (sNil)))
    (fun i ρ => ∃ (ds : List Int) (k : Int) (t6 : Option MV), ρ = [a, b, c, some (.own (ds.map D.int)), t, some (.dat (.int k)), t6, t7] ∧ ds.length ≤ n + i)
    (ds := (List.range 60).map fun (i : Nat) => D.int (i : Int)) (ρ := [a, b, c, some (.own (ds.map D.int)), t, some (.dat (.int k)), t6, t7])
    ⟨ds, k, t6, rfl, hl⟩ (by
      rintro i d ρ hd ⟨ds, k, t6, rfl, hl⟩
      obtain ⟨rfl, hi⟩ := rng_at hd
      refine ⟨_, rfl, ?_⟩
      by_cases hk : 0 < k
      · refine ⟨[a, b, c, some (.own ((ds ++ [k % 1000]).map D.int)), t, some (.dat (.int (k / 1000))), some (.dat (.int (i : Int))), t7], .inl ?_, _, _, _, rfl, by simp; omega⟩
        have := ap_lt hl (by omega)
        rw [← app_map]
        rw [List.length_map] at this
        simp -implicitDefEqProofs [hk, md, this, fd1000]
      · refine ⟨[a, b, c, some (.own (ds.map D.int)), t, some (.dat (.int k)), some (.dat (.int (i : Int))), t7], .inl ?_, _, _, _, rfl, by omega⟩
        simp -implicitDefEqProofs [hk])
  refine ⟨ds', _, _, el, ?_⟩
  simpa using l'
theorem mix_ok (s : List (Option MV)) (hs : s.length = 3) (k : Int) (ds : List Int) (n : Nat) (hl : ds.length ≤ n) (hn : n + 60 ≤ 1000000) (t t5 : Option MV) (t6 : Option MV) :
    ∃ (ds' : List Int) (t6' t7 : Option MV), loop (gN 6) (sSeq (sSet 7 (e2 modD (eB intD (aCons (e2 addD (e2 addD (e2 mulD (eVar 7) (eC (.int (16807)))) (e2 mulD (eC (.int (7))) (eVar 6))) (eC (.int (1)))) (aNil))) (eC (.int (2147483647))))) (sApp 3 (e2 modD (eB intD (aCons (e2 fdivD (eVar 7) (eC (.int (997)))) (aNil))) (eC (.int (1000)))))) ((List.range 12).map fun (i : Nat) => D.int (i : Int)) (s ++ [some (.own (ds.map D.int)), t, t5, t6, some (.dat (.int k))]) = .ok (.nx (s ++ [some (.own (ds'.map D.int)), t, t5, t6', t7])) ∧ ds'.length ≤ n + 60 := by
  obtain ⟨a, b, c, rfl⟩ : ∃ a b c, s = [a, b, c] := by
    match s, hs with
    | [a, b, c], _ => exact ⟨a, b, c, rfl⟩
  obtain ⟨ρ', el, ds', k', t6', rfl, l'⟩ := loop_inv (g := gN 6) (b := (sSeq (sSet 7 (e2 modD (eB intD (aCons (e2 addD (e2 addD (e2 mulD (eVar 7) (eC (.int (16807)))) (e2 mulD (eC (.int (7))) (eVar 6))) (eC (.int (1)))) (aNil))) (eC (.int (2147483647))))) (sApp 3 (e2 modD (eB intD (aCons (e2 fdivD (eVar 7) (eC (.int (997)))) (aNil))) (eC (.int (1000)))))))
    (fun i ρ => ∃ (ds : List Int) (k : Int) (t6 : Option MV), ρ = [a, b, c, some (.own (ds.map D.int)), t, t5, t6, some (.dat (.int k))] ∧ ds.length ≤ n + i)
    (ds := (List.range 12).map fun (i : Nat) => D.int (i : Int)) (ρ := [a, b, c, some (.own (ds.map D.int)), t, t5, t6, some (.dat (.int k))])
    ⟨ds, k, t6, rfl, hl⟩ (by
      rintro i d ρ hd ⟨ds, k, t6, rfl, hl⟩
      obtain ⟨rfl, hi⟩ := rng_at hd
      refine ⟨_, rfl, ?_⟩
      refine ⟨[a, b, c, some (.own ((ds ++ [(k * 16807 + 7 * (i : Int) + 1) % 2147483647 / 997 % 1000]).map D.int)), t, t5, some (.dat (.int (i : Int))), some (.dat (.int ((k * 16807 + 7 * (i : Int) + 1) % 2147483647)))], .inl ?_, _, _, _, rfl, by simp; omega⟩
      have := ap_lt hl (by omega)
      rw [← app_map]
      rw [List.length_map] at this
      simp -implicitDefEqProofs [md, mulD_l, mulD_r, this, fd997])
  refine ⟨ds', _, _, el, ?_⟩
  simp at l'
  omega
theorem rng60 : rng1 [.int 60] = .ok ((List.range 60).map fun (i : Nat) => D.int (i : Int)) := rng1_nat 60 (by omega)
theorem rng12 : rng1 [.int 12] = .ok ((List.range 12).map fun (i : Nat) => D.int (i : Int)) := rng1_nat 12 (by omega)
theorem rng063 : rng2 [.int 0, .int 63] = .ok ((List.range 63).map fun (i : Nat) => D.int (i : Int)) := by
  have : rng2 [.int 0, .int 63] = if -(2 ^ 62) ≤ (0 : Int) ∧ (0 : Int) < 2 ^ 62 ∧ -(2 ^ 62) ≤ (63 : Int) ∧ (63 : Int) < 2 ^ 62 then .ok (mRng (63 - 0) 0) else .stuck := rfl
  rw [this, if_pos (by decide +kernel)]
  unfold mRng
  simp only [Int.zero_add]
  rfl
theorem lane1 (F : MS) (ns : List Int) (i : Nat) (ds : List Int) (t5 t6 t7 : Option MV)
    (hF : ∀ c : Int, ∃ (ds' : List Int) (t5' t6' t7' : Option MV), F [some (.dat (.klst (ns.map D.int))), some (.dat (.int 0)), some (.dat (.int 63)), some (.own (ds.map D.int)), some (.dat (.int (i : Int))), some (.dat (.int c)), t6, t7] = .ok (.nx [some (.dat (.klst (ns.map D.int))), some (.dat (.int 0)), some (.dat (.int 63)), some (.own (ds'.map D.int)), some (.dat (.int (i : Int))), t5', t6', t7']) ∧ ds'.length ≤ 60 * (i + 1)) :
    ∃ (ds' : List Int) (t5' t6' t7' : Option MV), (sSeq (sSet 5 (eCall m__law_cell (aCons (eVar 0) (aCons (eVar 4) (aNil))))) (sSeq (sIf (bV (e2 ltD (eVar 5) (eC (.int (0))))) (sSet 5 (e2 subD (eC (.int (1))) (e2 mulD (eC (.int (2))) (eVar 5)))) (sNil)) F)) [some (.dat (.klst (ns.map D.int))), some (.dat (.int 0)), some (.dat (.int 63)), some (.own (ds.map D.int)), some (.dat (.int (i : Int))), t5, t6, t7] = .ok (.nx [some (.dat (.klst (ns.map D.int))), some (.dat (.int 0)), some (.dat (.int 63)), some (.own (ds'.map D.int)), some (.dat (.int (i : Int))), t5', t6', t7']) ∧ ds'.length ≤ 60 * (i + 1) := by
  have cell : m__law_cell [.klst (ns.map D.int), .int (i : Int)] = .ok (.int (ns.getD i 0)) := cell_ok ns (k := (i : Int)) (by omega)
  generalize ns.getD i 0 = c at cell
  by_cases hz : c < 0
  · obtain ⟨ds', t5', t6', t7', e, l⟩ := hF (1 - 2 * c)
    refine ⟨ds', t5', t6', t7', ?_, l⟩
    simp -implicitDefEqProofs [cell, hz, mulD_l, e]
  · obtain ⟨ds', t5', t6', t7', e, l⟩ := hF c
    refine ⟨ds', t5', t6', t7', ?_, l⟩
    simp -implicitDefEqProofs [cell, hz, e]
theorem lane_ok (a : List (Option MV)) (ns : List Int) (ha : a = [some (.dat (.klst (ns.map D.int))), some (.dat (.int 0)), some (.dat (.int 63))]) (i : Nat) (ds : List Int) (hl : ds.length ≤ 60 * i) (hi : i < 63) (t5 t6 t7 : Option MV) :
    ∃ (ds' : List Int) (t5' t6' t7' : Option MV), (sSeq (sSet 5 (eCall m__law_cell (aCons (eVar 0) (aCons (eVar 4) (aNil))))) (sSeq (sIf (bV (e2 ltD (eVar 5) (eC (.int (0))))) (sSet 5 (e2 subD (eC (.int (1))) (e2 mulD (eC (.int (2))) (eVar 5)))) (sNil)) (sIf (bV (e2 geD (eVar 5) (e2 powD (eC (.int (10))) (eC (.int (18)))))) (sFor (mLast (aCons (eC (.int (60))) (aNil)) rng1) (gN 6) (sIf (bV (e2 gtD (eVar 5) (eC (.int (0))))) (sSeq (sApp 3 (e2 modD (eB intD (aCons (eVar 5) (aNil))) (eC (.int (1000))))) (sSet 5 (e2 fdivD (eVar 5) (eC (.int (1000)))))) (sNil))) (sSeq (sSet 7 (e2 modD (eB intD (aCons (e2 addD (e2 addD (e2 mulD (eVar 5) (eC (.int (48271)))) (e2 mulD (eVar 4) (eC (.int (69621))))) (eC (.int (11)))) (aNil))) (eC (.int (2147483647))))) (sFor (mLast (aCons (eC (.int (12))) (aNil)) rng1) (gN 6) (sSeq (sSet 7 (e2 modD (eB intD (aCons (e2 addD (e2 addD (e2 mulD (eVar 7) (eC (.int (16807)))) (e2 mulD (eC (.int (7))) (eVar 6))) (eC (.int (1)))) (aNil))) (eC (.int (2147483647))))) (sApp 3 (e2 modD (eB intD (aCons (e2 fdivD (eVar 7) (eC (.int (997)))) (aNil))) (eC (.int (1000))))))))))) (a ++ [some (.own (ds.map D.int)), some (.dat (.int (i : Int))), t5, t6, t7]) = .ok (.nx (a ++ [some (.own (ds'.map D.int)), some (.dat (.int (i : Int))), t5', t6', t7'])) ∧ ds'.length ≤ 60 * (i + 1) := by
  have fin : ∀ c : Int, ∃ (ds' : List Int) (t5' t6' t7' : Option MV), (sIf (bV (e2 geD (eVar 5) (e2 powD (eC (.int (10))) (eC (.int (18)))))) (sFor (mLast (aCons (eC (.int (60))) (aNil)) rng1) (gN 6) (sIf (bV (e2 gtD (eVar 5) (eC (.int (0))))) (sSeq (sApp 3 (e2 modD (eB intD (aCons (eVar 5) (aNil))) (eC (.int (1000))))) (sSet 5 (e2 fdivD (eVar 5) (eC (.int (1000)))))) (sNil))) (sSeq (sSet 7 (e2 modD (eB intD (aCons (e2 addD (e2 addD (e2 mulD (eVar 5) (eC (.int (48271)))) (e2 mulD (eVar 4) (eC (.int (69621))))) (eC (.int (11)))) (aNil))) (eC (.int (2147483647))))) (sFor (mLast (aCons (eC (.int (12))) (aNil)) rng1) (gN 6) (sSeq (sSet 7 (e2 modD (eB intD (aCons (e2 addD (e2 addD (e2 mulD (eVar 7) (eC (.int (16807)))) (e2 mulD (eC (.int (7))) (eVar 6))) (eC (.int (1)))) (aNil))) (eC (.int (2147483647))))) (sApp 3 (e2 modD (eB intD (aCons (e2 fdivD (eVar 7) (eC (.int (997)))) (aNil))) (eC (.int (1000))))))))) (a ++ [some (.own (ds.map D.int)), some (.dat (.int (i : Int))), some (.dat (.int c)), t6, t7]) = .ok (.nx (a ++ [some (.own (ds'.map D.int)), some (.dat (.int (i : Int))), t5', t6', t7'])) ∧ ds'.length ≤ 60 * (i + 1) := by
    intro c
    by_cases hc : 1000000000000000000 ≤ c
    · obtain ⟨ds', t5', t6', e, l⟩ := big_ok a (by rw [ha]; rfl) t7 c ds (60 * i) hl (by omega) (some (.dat (.int (i : Int)))) t6
      refine ⟨ds', t5', t6', t7, ?_, by omega⟩
      subst ha
      simp only [List.cons_append, List.nil_append] at e
      simp -implicitDefEqProofs [powD_lit, hc, rng60, e]
    · obtain ⟨ds', t6', t7', e, l⟩ := mix_ok a (by rw [ha]; rfl) ((c * 48271 + (i : Int) * 69621 + 11) % 2147483647) ds (60 * i) hl (by omega) (some (.dat (.int (i : Int)))) (some (.dat (.int c))) t6
      refine ⟨ds', some (.dat (.int c)), t6', t7', ?_, by omega⟩
      subst ha
      simp only [List.cons_append, List.nil_append] at e
      simp -implicitDefEqProofs [powD_lit, hc, rng12, mulD_r, md, e]
  subst ha
  simp only [List.cons_append, List.nil_append] at fin ⊢
  exact lane1 _ ns i ds t5 t6 t7 fin
theorem digits_ok (ns : List Int) : ∃ ds : List Int, m__law_digits [.klst (ns.map D.int), .int 0, .int 63] = .ok (.lst (ds.map D.int)) := by
  obtain ⟨ρ', el, ds, t4, t5, t6, t7, rfl, l⟩ := loop_inv (g := gN 4) (b := (sSeq (sSet 5 (eCall m__law_cell (aCons (eVar 0) (aCons (eVar 4) (aNil))))) (sSeq (sIf (bV (e2 ltD (eVar 5) (eC (.int (0))))) (sSet 5 (e2 subD (eC (.int (1))) (e2 mulD (eC (.int (2))) (eVar 5)))) (sNil)) (sIf (bV (e2 geD (eVar 5) (e2 powD (eC (.int (10))) (eC (.int (18)))))) (sFor (mLast (aCons (eC (.int (60))) (aNil)) rng1) (gN 6) (sIf (bV (e2 gtD (eVar 5) (eC (.int (0))))) (sSeq (sApp 3 (e2 modD (eB intD (aCons (eVar 5) (aNil))) (eC (.int (1000))))) (sSet 5 (e2 fdivD (eVar 5) (eC (.int (1000)))))) (sNil))) (sSeq (sSet 7 (e2 modD (eB intD (aCons (e2 addD (e2 addD (e2 mulD (eVar 5) (eC (.int (48271)))) (e2 mulD (eVar 4) (eC (.int (69621))))) (eC (.int (11)))) (aNil))) (eC (.int (2147483647))))) (sFor (mLast (aCons (eC (.int (12))) (aNil)) rng1) (gN 6) (sSeq (sSet 7 (e2 modD (eB intD (aCons (e2 addD (e2 addD (e2 mulD (eVar 7) (eC (.int (16807)))) (e2 mulD (eC (.int (7))) (eVar 6))) (eC (.int (1)))) (aNil))) (eC (.int (2147483647))))) (sApp 3 (e2 modD (eB intD (aCons (e2 fdivD (eVar 7) (eC (.int (997)))) (aNil))) (eC (.int (1000))))))))))))
    (fun i ρ => ∃ (ds : List Int) (t4 t5 t6 t7 : Option MV), ρ = [some (.dat (.klst (ns.map D.int))), some (.dat (.int 0)), some (.dat (.int 63)), some (.own (ds.map D.int)), t4, t5, t6, t7] ∧ ds.length ≤ 60 * i)
    (ds := (List.range 63).map fun (i : Nat) => D.int (i : Int)) (ρ := [some (.dat (.klst (ns.map D.int))), some (.dat (.int 0)), some (.dat (.int 63)), some (.own []), none, none, none, none])
    ⟨[], _, _, _, _, rfl, by simp⟩ (by
      rintro i d ρ hd ⟨ds, t4, t5, t6, t7, rfl, hl⟩
      obtain ⟨rfl, hi⟩ := rng_at hd
      refine ⟨_, rfl, ?_⟩
      obtain ⟨ds', t5', t6', t7', e, l⟩ := lane_ok _ ns rfl i ds hl hi t5 t6 t7
      exact ⟨_, .inl e, ds', _, _, _, _, rfl, l⟩)
  refine ⟨ds, ?_⟩
  unfold m__law_digits
  rw [runP_if]
  have z : (0 : Nat) ≤ sizeLine := by decide
  simp -implicitDefEqProofs [b__law_digits, startE, rng063, el, z]
theorem z4 : 4 ≤ sizeLine := by decide
end LAW


end
section
open PySem L2 ML
namespace LAW
/-! ### texts by their signs -/
def tx (l : List Nat) : PySem.Str := ⟨l.toArray⟩
def sg (x : PySem.Str) : List Nat := x.cps.toList
theorem tx_sg (x : PySem.Str) : tx (sg x) = x := by
  unfold tx sg
  rfl
theorem sg_tx (l : List Nat) : sg (tx l) = l := by
  unfold tx sg
  simp
theorem sg_app (x y : PySem.Str) : sg (x ++ y) = sg x ++ sg y := by
  unfold sg
  rw [Str.cps_append, Array.toList_append]
theorem sg_inj {x y : PySem.Str} (h : sg x = sg y) : x = y := by
  rw [← tx_sg x, ← tx_sg y, h]
theorem len_sg (x : PySem.Str) : x.length = (sg x).length := by
  show x.cps.size = _
  unfold sg
  rw [Array.length_toList]
/-- parts with a sign between -/
def jn (c : Nat) : List (List Nat) → List Nat
  | [] => []
  | [x] => x
  | x :: y :: r => x ++ c :: jn c (y :: r)
theorem sg_join (c : Nat) : ∀ ps : List PySem.Str, sg (PySem.Str.join (tx [c]) ps) = jn c (ps.map sg)
  | [] => rfl
  | [x] => rfl
  | x :: y :: r => by
    show sg (x ++ tx [c] ++ PySem.Str.join (tx [c]) (y :: r)) = _
    rw [sg_app, sg_app, sg_join c (y :: r), sg_tx, List.append_assoc]
    rfl
theorem jn_cut {c : Nat} : ∀ {x y : List Nat} {r s : List Nat}, c ∉ x → c ∉ y → x ++ c :: r = y ++ c :: s → x = y ∧ r = s
  | [], [], r, s, _, _, h => ⟨rfl, by injection h⟩
  | [], b :: y, r, s, _, hy, h => by
    injection h with h1 _
    exact absurd (h1 ▸ List.mem_cons_self) hy
  | a :: x, [], r, s, hx, _, h => by
    injection h with h1 _
    exact absurd (h1 ▸ List.mem_cons_self) hx
  | a :: x, b :: y, r, s, hx, hy, h => by
    injection h with h1 h2
    obtain ⟨e1, e2⟩ := jn_cut (fun m => hx (List.mem_cons_of_mem _ m)) (fun m => hy (List.mem_cons_of_mem _ m)) h2
    exact ⟨by rw [h1, e1], e2⟩
theorem jn_uniq {c : Nat} : ∀ {ps qs : List (List Nat)}, ps ≠ [] → qs ≠ [] → (∀ p ∈ ps, c ∉ p) → (∀ q ∈ qs, c ∉ q) → jn c ps = jn c qs → ps = qs
  | [], _, h, _, _, _, _ => absurd rfl h
  | _ :: _, [], _, h, _, _, _ => absurd rfl h
  | [x], [y], _, _, _, _, h => by
    have h : x = y := h
    rw [h]
  | [x], y :: z :: s, _, _, hp, _, h => by
    have h : x = y ++ c :: jn c (z :: s) := h
    exact absurd (by rw [h]; simp) (hp x List.mem_cons_self)
  | x :: w :: r, [y], _, _, _, hq, h => by
    have h : x ++ c :: jn c (w :: r) = y := h
    exact absurd (by rw [← h]; simp) (hq y List.mem_cons_self)
  | x :: w :: r, y :: z :: s, _, _, hp, hq, h => by
    have h : x ++ c :: jn c (w :: r) = y ++ c :: jn c (z :: s) := h
    obtain ⟨e1, e2⟩ := jn_cut (hp x List.mem_cons_self) (hq y List.mem_cons_self) h
    have := jn_uniq (by simp) (by simp) (fun p m => hp p (List.mem_cons_of_mem _ m)) (fun q m => hq q (List.mem_cons_of_mem _ m)) e2
    rw [e1, this]
theorem map_sg_inj : ∀ {ps qs : List PySem.Str}, ps.map sg = qs.map sg → ps = qs
  | [], [], _ => rfl
  | [], _ :: _, h => by cases h
  | _ :: _, [], h => by cases h
  | p :: ps, q :: qs, h => by
    injection h with h1 h2
    rw [sg_inj h1, map_sg_inj h2]
/-- splitting at a sign -/
theorem split_jn {c : Nat} {ps : List PySem.Str} (h0 : ps ≠ []) (h : ∀ p ∈ ps, c ∉ sg p) : Txt.split (PySem.Str.join (tx [c]) ps) (tx [c]) = ps := by
  refine map_sg_inj (jn_uniq (c := c) ?_ (by simpa using h0) ?_ (fun q hq => ?_) ?_)
  · have := PyProof.Rows.split_pos (PySem.Str.join (tx [c]) ps) (tx [c])
    intro z
    have z := congrArg List.length z
    rw [List.length_map, List.length_nil] at z
    omega
  · intro q hq
    obtain ⟨p, hp, rfl⟩ := List.mem_map.mp hq
    exact StrLaws.split_free _ c p hp
  · obtain ⟨p, hp, rfl⟩ := List.mem_map.mp hq
    exact h p hp
  · rw [← sg_join, ← sg_join, StrLaws.join_split]
/-! ### words with blanks between -/
/-! ### integers as texts -/
def dg (n : Nat) : List Nat := (Nat.toDigits 10 n).map Char.toNat
def nt (i : Int) : List Nat := if i < 0 then 45 :: dg i.natAbs else dg i.natAbs
end LAW


end
section
open PySem L2 ML
local instance : Tabs := ⟨fun _ => False⟩
namespace LAW
theorem loop_cons {g : MG} {b : MS} {d : D} {ds : List D} {ρ ρ1 ρ2 : En} {x : Res Fl} (h1 : g d ρ = .ok ρ1) (h2 : b ρ1 = .ok (.nx ρ2)) (h3 : loop g b ds ρ2 = x) : loop g b (d :: ds) ρ = x := by
  show (match g d ρ with
    | .ok ρ1 => (match b ρ1 with
      | .ok (.nx ρ2) => loop g b ds ρ2
      | .ok (.ct ρ2) => loop g b ds ρ2
      | .ok (.bk ρ2) => .ok (.nx ρ2)
      | .ok (.rt d ρ2) => .ok (.rt d ρ2)
      | .exn c fs => .exn c fs
      | .stuck => .stuck)
    | _ => .stuck) = x
  rw [h1]
  show (match b ρ1 with
      | .ok (.nx ρ2) => loop g b ds ρ2
      | .ok (.ct ρ2) => loop g b ds ρ2
      | .ok (.bk ρ2) => .ok (.nx ρ2)
      | .ok (.rt d ρ2) => .ok (.rt d ρ2)
      | .exn c fs => .exn c fs
      | .stuck => .stuck) = x
  rw [h2]
  exact h3
theorem allowed_ok {c : Nat} (h1 : 32 ≤ c) (h2 : c ≤ 126) (h3 : c ≠ 37) : m_is_allowed [.str (tx [c])] = .ok (.bl true) := by
  have e1 : leSD (.str " ") (.str (tx [c])) = .ok (.bl true) := by
    show Res.ok (D.bl (!decide ((tx [c]).cps.toList < (" " : PySem.Str).cps.toList))) = _
    have a : (tx [c]).cps.toList = [c] := rfl
    have b : (" " : PySem.Str).cps.toList = [32] := by decide +kernel
    rw [a, b]
    have : ¬ ([c] < [32]) := by
      intro z
      have := List.cons_lt_cons_iff.mp z
      rcases this with h | ⟨_, h⟩
      · omega
      · exact absurd h (List.not_lt_nil _)
    simp [this]
  have e2 : leSD (.str (tx [c])) (.str "~") = .ok (.bl true) := by
    show Res.ok (D.bl (!decide (("~" : PySem.Str).cps.toList < (tx [c]).cps.toList))) = _
    have a : (tx [c]).cps.toList = [c] := rfl
    have b : ("~" : PySem.Str).cps.toList = [126] := by decide +kernel
    rw [a, b]
    have : ¬ ([126] < [c]) := by
      intro z
      have := List.cons_lt_cons_iff.mp z
      rcases this with h | ⟨_, h⟩
      · omega
      · exact absurd h (List.not_lt_nil _)
    simp [this]
  have e3 : ordD [.str (tx [c])] = .ok (.int (c : Int)) := rfl
  have e4 : neD (.int (c : Int)) (.int 37) = .ok (.bl true) := by
    rw [neD_int]
    have : ¬ ((c : Int) = 37) := by omega
    simp [this]
  unfold m_is_allowed
  rw [runP_if]
  generalize tx [c] = X at *
  generalize (c : Int) = C at *
  simp (decide := true) -implicitDefEqProofs [b_is_allowed, startE, e1, e2, e3, e4]
def AlL (x : PySem.Str) : Prop := ∀ c ∈ sg x, 32 ≤ c ∧ c ≤ 126 ∧ c ≠ 37
instance (x : PySem.Str) : Decidable (AlL x) := inferInstanceAs (Decidable (∀ c ∈ sg x, _))
theorem loop_exn {g : MG} {b : MS} {d : D} {ds : List D} {ρ ρ1 : En} {c : PySem.Str} {fs : List (PySem.Str × D)} (hg : g d ρ = .ok ρ1) (hb : b ρ1 = .exn c fs) : loop g b (d :: ds) ρ = .exn c fs := by
  unfold loop
  rw [hg]
  simp only
  rw [hb]
/-! ### the signs of the lines -/
def PB1 : MS := (sIf (bNot (bV (eAll true (mLast (eVar 3) asStr) (gN 6) (([("sign", 6)] : List (PySem.Str × Nat)).map (·.2)) (eCall m_is_allowed (aCons (eVar 6) (aNil)))))) (sRaise2 "BadNet" "line" "reason" (aCons (ML.e2 addD (eVar 2) (eC (.int (1)))) (aCons (eC (.str "character not allowed")) (aNil)))) (sNil))
def PG : MG := gT 2 (gsCons (gN 2) (gsCons (gN 3) (gsNil)))
def eL : Nat → List PySem.Str → List D
  | _, [] => []
  | i, x :: l => .tup [.int (i : Int), .str x] :: eL (i + 1) l
theorem enum_eL (l : List PySem.Str) : enumL (l.map D.str) = eL 0 l := by
  have gen : ∀ (l : List PySem.Str) (i : Nat), List.zipWith (fun (i : Nat) d => D.tup [.int (i : Int), d]) (List.range' i l.length) (l.map D.str) = eL i l := by
    intro l
    induction l with
    | nil => intro i; rfl
    | cons x l ih =>
      intro i
      rw [List.length_cons, List.range'_succ, List.map_cons, List.zipWith_cons_cons, ih]
      rfl
  unfold enumL
  rw [List.length_map, List.range_eq_range']
  exact gen l 0
theorem all_true {v : Nat} {elt : ME} : ∀ (ds : List D) (ρ : En), ρ.set v none = ρ → (∀ d ∈ ds, elt (ρ.set v (some (.dat d))) = .ok (.bl true, ρ.set v (some (.dat d)))) → allLoop true (gN v) [v] elt ds ρ = .ok (.bl true, ρ)
  | [], ρ, _, _ => rfl
  | d :: ds, ρ, hn, h => by
    have h1 := h d List.mem_cons_self
    have ih := all_true ds ρ hn fun x hx => h x (List.mem_cons_of_mem _ hx)
    show (match elt ((ρ.set v none).set v (some (.dat d))) with
        | .ok (.bl b, ρ2) => if b = true then allLoop true (gN v) [v] elt ds (wipeE ρ2 [v]) else Res.ok (.bl (!true), wipeE ρ2 [v])
        | _ => Res.stuck) = _
    rw [hn, h1]
    show allLoop true (gN v) [v] elt ds ((ρ.set v (some (.dat d))).set v none) = _
    rw [List.set_set, hn]
    exact ih
theorem pb1_turn {x : PySem.Str} (h : AlL x) (T L : Option MV) (z : D) : PB1 [T, L, some (.dat z), some (.dat (.str x)), none, none, none] = .ok (.nx [T, L, some (.dat z), some (.dat (.str x)), none, none, none]) := by
  have al := all_true (v := 6) (elt := eCall m_is_allowed (aCons (eVar 6) aNil)) (signsD x) [T, L, some (.dat z), some (.dat (.str x)), none, none, none] rfl fun d hd => by
    obtain ⟨c, hc, rfl⟩ := List.mem_map.mp hd
    have hc' := h c hc
    have e := allowed_ok hc'.1 hc'.2.1 hc'.2.2
    have e : m_is_allowed [.str ⟨#[c]⟩] = .ok (.bl true) := e
    show eCall m_is_allowed (aCons (eVar 6) aNil) [T, L, some (.dat z), some (.dat (.str x)), none, none, some (.dat (.str ⟨#[c]⟩))] = .ok (.bl true, [T, L, some (.dat z), some (.dat (.str x)), none, none, some (.dat (.str ⟨#[c]⟩))])
    generalize D.str ⟨#[c]⟩ = CD at *
    simp (decide := true) -implicitDefEqProofs [e]
  have vs : (([("sign", 6)] : List (PySem.Str × Nat)).map (·.2)) = [6] := rfl
  unfold PB1
  rw [vs]
  have as := asStr_str x
  generalize (eCall m_is_allowed (aCons (eVar 6) aNil)) = EL at *
  generalize signsD x = SX at *
  generalize D.str x = XD at *
  simp (decide := true) -implicitDefEqProofs [as, al]
theorem pb1_loop (T L : Option MV) : ∀ (l : List PySem.Str) (i : Nat) (x2 x3 : Option MV), (x2 = none ∨ ∃ d, x2 = some (.dat d)) → (x3 = none ∨ ∃ d, x3 = some (.dat d)) → (∀ x ∈ l, AlL x) → ∃ x2' x3', (x2' = none ∨ ∃ d, x2' = some (.dat d)) ∧ (x3' = none ∨ ∃ d, x3' = some (.dat d)) ∧ loop PG PB1 (eL i l) [T, L, x2, x3, none, none, none] = .ok (.nx [T, L, x2', x3', none, none, none])
  | [], i, x2, x3, h2, h3, _ => ⟨x2, x3, h2, h3, rfl⟩
  | x :: l, i, x2, x3, _, _, h => by
    obtain ⟨x2', x3', g2, g3, ih⟩ := pb1_loop T L l (i + 1) (some (.dat (.int (i : Int)))) (some (.dat (.str x))) (.inr ⟨_, rfl⟩) (.inr ⟨_, rfl⟩) fun y hy => h y (List.mem_cons_of_mem _ hy)
    exact ⟨x2', x3', g2, g3, loop_cons rfl (pb1_turn (h x List.mem_cons_self) T L (.int (i : Int))) ih⟩
/-! ### the lines are read -/
def PB2 : MS := (sSeq (sSet 5 (eCall m_words_of (aCons (eVar 3) (aNil)))) (sIf (bV (ML.e2 gtD (eB lenD (aCons (eVar 5) (aNil))) (eC (.int (0))))) (sExpr (eMethA m_Reader_read_line 4 "Reader" "read_line" (aCons (ML.e2 addD (eVar 2) (eC (.int (1)))) (aCons (eVar 5) (aNil))))) (sNil)))
abbrev rdS (ar : List AO) : Option MV := some (.nst (.root ar 0))
theorem pb2_turn {x : PySem.Str} {W : List D} {i : Int} {ar ar1 : List AO} (hw : m_words_of [.str x] = .ok (.lst W)) (h0 : W ≠ []) (hi : insAt ar 0 "Reader" "read_line" = true) (h : m_Reader_read_line ar 0 [.int (i + 1), .lst W] = .ok (.non, ar1)) (d1 d2 : D) (x5 : Option MV) (_h5 : x5 = none ∨ ∃ d, x5 = some (.dat d)) :
    PB2 [some (.dat d1), some (.dat d2), some (.dat (.int i)), some (.dat (.str x)), rdS ar, x5, none] = .ok (.nx [some (.dat d1), some (.dat d2), some (.dat (.int i)), some (.dat (.str x)), rdS ar1, some (.dat (.lst W)), none]) := by
  have ln : lenD [.lst W] = .ok (.int (W.length : Int)) := lenD_lst W
  have g : (0 : Int) < (W.length : Int) := by have := List.length_pos_iff.mpr h0; omega
  have g' : (W.length : Int) > 0 := g
  have gn : 0 < W.length := by omega
  have sa : ∀ z : D, setA [some (.dat d1), some (.dat d2), some (.dat (.int i)), some (.dat (.str x)), some (.nst (.root ar 0)), some (.dat z), none] 4 ar1 0 = [some (.dat d1), some (.dat d2), some (.dat (.int i)), some (.dat (.str x)), some (.nst (.root ar1 0)), some (.dat z), none] := fun z => rfl
  unfold PB2 rdS
  clear _h5
  generalize D.lst W = WL at *
  generalize (W.length : Int) = N at *
  simp (decide := true) -implicitDefEqProofs [hw, ln, g, g', hi, h, sa]
theorem pb2_skip {x : PySem.Str} {i : Int} {ar : List AO} (hw : m_words_of [.str x] = .ok (.lst [])) (d1 d2 : D) (x5 : Option MV) :
    PB2 [some (.dat d1), some (.dat d2), some (.dat (.int i)), some (.dat (.str x)), rdS ar, x5, none] = .ok (.nx [some (.dat d1), some (.dat d2), some (.dat (.int i)), some (.dat (.str x)), rdS ar, some (.dat (.lst [])), none]) := by
  have ln : lenD [.lst []] = .ok (.int 0) := rfl
  unfold PB2 rdS
  generalize D.lst [] = WL at *
  simp (decide := true) -implicitDefEqProofs [hw, ln]
theorem pb2_exn {x : PySem.Str} {W : List D} {i : Int} {ar : List AO} {c : PySem.Str} {fs : List (PySem.Str × D)} (hw : m_words_of [.str x] = .ok (.lst W)) (h0 : W ≠ []) (hi : insAt ar 0 "Reader" "read_line" = true) (h : m_Reader_read_line ar 0 [.int (i + 1), .lst W] = .exn c fs) (d1 d2 : D) (x5 : Option MV) :
    PB2 [some (.dat d1), some (.dat d2), some (.dat (.int i)), some (.dat (.str x)), rdS ar, x5, none] = .exn c fs := by
  have ln : lenD [.lst W] = .ok (.int (W.length : Int)) := lenD_lst W
  have g : (0 : Int) < (W.length : Int) := by have := List.length_pos_iff.mpr h0; omega
  have g' : (W.length : Int) > 0 := g
  have gn : 0 < W.length := by omega
  unfold PB2 rdS
  generalize D.lst W = WL at *
  generalize (W.length : Int) = N at *
  simp (decide := true) -implicitDefEqProofs [hw, ln, g, g', hi, h]
end LAW


end
section
open PySem L2 ML
local instance : Tabs := ⟨fun _ => False⟩
namespace LAW
/-! ### the lines, one behind the other -/
def resL : (Nat → Int) → List AO → List (List D) → Res (List AO)
  | _, ar, [] => .ok ar
  | f, ar, w :: ws => if insAt ar 0 "Reader" "read_line" = true then (match m_Reader_read_line ar 0 [.int (f 0), .lst w] with
    | .ok (.non, ar1) => resL (fun k => f (k + 1)) ar1 ws
    | .exn c fs => .exn c fs
    | _ => .stuck) else .stuck
inductive Dc : List (List D) → List PySem.Str → Prop
  | nil : Dc [] []
  | bl {ws L x} : m_words_of [.str x] = .ok (.lst []) → Dc ws L → Dc ws (x :: L)
  | ln {w ws L x} : m_words_of [.str x] = .ok (.lst w) → w ≠ [] → Dc ws L → Dc (w :: ws) (x :: L)
theorem Dc.app {w1 w2 : List (List D)} {L1 L2 : List PySem.Str} (h1 : Dc w1 L1) (h2 : Dc w2 L2) : Dc (w1 ++ w2) (L1 ++ L2) := by
  induction h1 with
  | nil => exact h2
  | bl hb _ ih => exact .bl hb ih
  | ln hw hn _ ih => exact .ln hw hn ih
theorem pb2_bad (d1 d2 : D) {ws : List (List D)} {L : List PySem.Str} (h : Dc ws L) : ∀ i : Nat, ∃ f : Nat → Int, f ws.length = (i : Int) + L.length + 1 ∧ ∀ (ar : List AO) (w : List D) (x : PySem.Str) (R : List PySem.Str) (c : PySem.Str) (fs : List (PySem.Str × D)) (x2 x3 x5 : Option MV), (x5 = none ∨ ∃ d, x5 = some (.dat d)) → m_words_of [.str x] = .ok (.lst w) → w ≠ [] →
    resL f ar (ws ++ [w]) = .exn c fs → loop PG PB2 (eL i (L ++ x :: R)) [some (.dat d1), some (.dat d2), x2, x3, rdS ar, x5, none] = .exn c fs := by
  induction h with
  | nil =>
    intro i
    refine ⟨fun _ => (i : Int) + 1, by simp, fun ar w x R c fs x2 x3 x5 _ hw hn e => ?_⟩
    show loop PG PB2 (.tup [.int (i : Int), .str x] :: eL (i + 1) R) _ = _
    rw [List.nil_append] at e
    unfold resL at e
    by_cases hi : insAt ar 0 "Reader" "read_line" = true
    · rw [if_pos hi] at e
      refine loop_exn (ρ1 := [some (.dat d1), some (.dat d2), some (.dat (.int (i : Int))), some (.dat (.str x)), rdS ar, x5, none]) rfl (pb2_exn hw hn hi ?_ d1 d2 x5)
      split at e
      · unfold resL at e; cases e
      · rename_i h; rw [h]; cases e; rfl
      · cases e
    · rw [if_neg hi] at e; cases e
  | @bl ws L x hb _ ih =>
    intro i
    obtain ⟨f, hf, ih⟩ := ih (i + 1)
    refine ⟨f, by rw [hf, List.length_cons]; omega, fun ar w y R c fs x2 x3 x5 h5 hw hn e => ?_⟩
    have := ih ar w y R c fs (some (.dat (.int (i : Int)))) (some (.dat (.str x))) (some (.dat (.lst []))) (.inr ⟨_, rfl⟩) hw hn e
    exact loop_cons rfl (pb2_skip hb d1 d2 x5) this
  | @ln w0 ws L x hl hn0 _ ih =>
    intro i
    obtain ⟨f, hf, ih⟩ := ih (i + 1)
    refine ⟨fun k => match k with | 0 => (i : Int) + 1 | k + 1 => f k, by
      show f ws.length = _
      rw [hf, List.length_cons]; omega, fun ar w y R c fs x2 x3 x5 h5 hw hn e => ?_⟩
    show loop PG PB2 (.tup [.int (i : Int), .str x] :: eL (i + 1) (L ++ y :: R)) _ = _
    rw [List.cons_append] at e
    unfold resL at e
    by_cases hi : insAt ar 0 "Reader" "read_line" = true
    · rw [if_pos hi] at e
      split at e
      · rename_i ar1 h
        have := ih ar1 w y R c fs (some (.dat (.int (i : Int)))) (some (.dat (.str x))) (some (.dat (.lst w0))) (.inr ⟨_, rfl⟩) hw hn e
        exact loop_cons rfl (pb2_turn hl hn0 hi h d1 d2 x5 h5) this
      · rename_i h
        cases e
        exact loop_exn (ρ1 := [some (.dat d1), some (.dat d2), some (.dat (.int (i : Int))), some (.dat (.str x)), rdS ar, x5, none]) rfl (pb2_exn hl hn0 hi h d1 d2 x5)
      · cases e
    · rw [if_neg hi] at e; cases e
/-! ### parse -/
def arI : List AO := match initA m_Reader___init__ "Reader" [] with | some a => a | none => []
theorem arI_ok : initA m_Reader___init__ "Reader" [] = some arI := by kernel_rfl
theorem nl_is : ("\n" : PySem.Str) = tx [10] := by decide +kernel
theorem parse_bad {x : PySem.Str} (hx : x.length ≤ 60000) {L : List PySem.Str} (hs : Txt.split x "\n" = L) (al : ∀ y ∈ L, AlL y) {c : PySem.Str} {fs : List (PySem.Str × D)}
    (h : ∀ (x2 x3 : Option MV), loop PG PB2 (eL 0 L) [some (.dat (.str x)), some (.dat (.lst (L.map D.str))), x2, x3, rdS arI, none, none] = .exn c fs) : m_parse [.str x] = .exn c fs := by
  have sp : splitD x (.str "\n") = .ok (.lst (L.map D.str)) := by
    show (if (("\n" : PySem.Str).length == 0) = false ∧ x.length + 2 ≤ sizeLine then Res.ok (D.lst ((Txt.split x "\n").map D.str)) else .stuck) = _
    rw [if_pos ⟨by decide +kernel, Nat.le_trans (show x.length + 2 ≤ 60002 by omega) (by decide)⟩, hs]
  have ll : lenTD [.str x] = .ok (.int (x.length : Int)) := by
    show (if x.length ≤ sizeLine then Res.ok (D.int (x.length : Int)) else .stuck) = _
    rw [if_pos (Nat.le_trans hx (by decide))]
  have n1 : ¬ ((x.length : Int) > 60000) := by omega
  have n2 : ¬ ((60000 : Int) < (x.length : Int)) := n1
  have n3 : ¬ (60000 < x.length) := by omega
  obtain ⟨x2, x3, g2, g3, l1⟩ := pb1_loop (some (.dat (.str x))) (some (.dat (.lst (L.map D.str)))) L 0 none none (.inl rfl) (.inl rfl) al
  have l2 := h x2 x3
  rw [← enum_eL] at l1 l2
  have en : enumD [.lst (L.map D.str)] = .ok (enumL (L.map D.str)) := rfl
  have mk : sMakeR 4 "Reader" m_Reader___init__ [some (.dat (.str x)), some (.dat (.lst (L.map D.str))), x2, x3, none, none, none] = .ok (.nx [some (.dat (.str x)), some (.dat (.lst (L.map D.str))), x2, x3, rdS arI, none, none]) := by
    unfold sMakeR
    rw [arI_ok]
    simp only
    have no : noIns 4 [some (.dat (.str x)), some (.dat (.lst (L.map D.str))), x2, x3, none, none, none] = true := by
      rcases g2 with rfl | ⟨d, rfl⟩ <;> rcases g3 with rfl | ⟨d', rfl⟩ <;> rfl
    rw [if_pos no]
    rfl
  have be : b_parse = sSeq (sIf (bV (ML.e2 gtD (eB lenTD (aCons (eVar 0) (aNil))) (eC (.int (60000))))) (sRaise2 "BadNet" "line" "reason" (aCons (eC (.int (1))) (aCons (eC (.str "text too long")) (aNil)))) (sNil)) (sSeq (sSet 1 (eSM splitD (eVar 0) (eC (.str "\n")))) (sSeq (sFor (mLast (aCons (eVar 1) (aNil)) enumD) PG PB1) (sSeq (sMakeR 4 "Reader" m_Reader___init__) (sSeq (sFor (mLast (aCons (eVar 1) (aNil)) enumD) PG PB2) (sRet (eMethA m_Reader_ended 4 "Reader" "ended" (aCons (eB lenD (aCons (eVar 1) (aNil))) (aNil)))))))) := rfl
  unfold m_parse
  rw [runP_if, be]
  clear al hs g2 g3 be h
  unfold rdS at mk l2
  generalize enumL (L.map D.str) = EN at *
  generalize D.lst (L.map D.str) = LL at *
  generalize (x.length : Int) = XL at *
  generalize PG = G at *
  generalize PB1 = B1 at *
  generalize PB2 = B2 at *
  simp (decide := true) -implicitDefEqProofs [startE, ll, n1, n2, asS, sp, en, l1, mk, l2]
theorem read_exn {x rs : PySem.Str} {n : Int} (h : m_parse [.str x] = .exn "BadNet" [("reason", .str rs), ("line", .int n)]) : m__law_read [.str x] = .ok (.tup [.int n, .str rs]) := by
  have l1 : ([("reason", D.str rs), ("line", D.int n)] : List (Str × D)).lookup ("line" : PySem.Str) = some (D.int n) := by rfl
  have l2 : ([("reason", D.str rs), ("line", D.int n)] : List (Str × D)).lookup ("reason" : PySem.Str) = some (D.str rs) := by rfl
  have is : isiD [.int n, .ty "bool"] = .ok (.bl false) := rfl
  have z : 2 ≤ sizeLine := by decide
  have dt : datE [some (.dat (.str x)), none, none] = true := rfl
  have no : noneE [some (.dat (.str x)), none, none] = [none, none, none] := rfl
  unfold m__law_read
  rw [runP_if]
  simp (decide := true) -implicitDefEqProofs [b__law_read, startE, h, goneR, sRetQ, eIsC, eFld, l1, l2, z, is, sIfQ, dt, no]
end LAW


end
section
open PySem L2 ML
local instance : Tabs := ⟨fun _ => False⟩
namespace LAW
/-! ### the law's lines -/
def wo (x : PySem.Str) : List D := match m_words_of [.str x] with
  | .ok (.lst l) => l
  | _ => []
def ckW (x : PySem.Str) : Bool := match m_words_of [.str x] with
  | .ok (.lst (_ :: _)) => true
  | _ => false
theorem ckW_ok {x : PySem.Str} (h : ckW x = true) : m_words_of [.str x] = .ok (.lst (wo x)) ∧ wo x ≠ [] := by
  unfold ckW at h
  unfold wo
  split at h
  · rename_i a l e
    rw [e]
    exact ⟨rfl, fun z => by cases z⟩
  · cases h
def badR (rs : PySem.Str) (n : Int) : Res (List AO) := .exn "BadNet" [("reason", .str rs), ("line", .int n)]
def lnOk (x : PySem.Str) : Bool := decide (AlL x) && decide (x.length ≤ 40)
structure Cs (pre : List PySem.Str) (tbl : List (PySem.Str × PySem.Str)) (good : PySem.Str) : Prop where
  bad : ∀ f : Nat → Int, (tbl.map fun p => resL f arI ((("net 2" : PySem.Str) :: pre ++ [p.1]).map wo)) = tbl.map fun p => badR p.2 (f (pre.length + 1))
  zz : ∀ f : Nat → Int, resL f arI ((("net 2" : PySem.Str) :: pre ++ [good, "zz 1"]).map wo) = badR "unknown word" (f (pre.length + 2))
  ck : ∀ x ∈ pre ++ good :: tbl.map (·.1), ckW x = true ∧ lnOk x = true
  st : (tbl.all fun p => PyData.strOk p.2) = true
def oop : PySem.Str := "word out of place"
def wnw : PySem.Str := "wrong number of words"
def nan : PySem.Str := "not a number"
def oor : PySem.Str := "number out of range"
def wln : PySem.Str := "wrong length"
def unk : PySem.Str := "unknown word"
def T0 : List (PySem.Str × PySem.Str) := [("net 2", oop), ("row 1 2 bias 3", oop), ("kernel 1 bias 3", oop), ("with", oop), ("end", oop), ("relus", unk), ("Relu", unk), ("7", unk), ("-", unk), ("done done", wnw), ("dense 2", wnw), ("conv", wnw), ("conv 1 2", wnw), ("relu 0", wnw), ("clamp 1", wnw), ("clamp 1 2 3", wnw), ("max", wnw), ("mean 1 2", wnw), ("sum 1", wnw), ("fork ()", wnw)]
def T1 : List (PySem.Str × PySem.Str) := [("clamp 01 2", nan), ("clamp 1 +2", nan), ("clamp -0 1", nan), ("clamp 1 1.0", nan), ("clamp a b", nan), ("clamp - 1", nan), ("clamp 1 1234567890", nan), ("clamp 2 1", oor), ("clamp 16777217 x", oor), ("clamp x 16777217", nan), ("clamp -16777217 0", oor), ("max 0", oor), ("max -1", oor), ("mean 3", oor), ("mean 128", oor), ("mean x", nan), ("conv 0", oor), ("conv 65", oor), ("conv -2", oor), ("conv one", nan), ("mean 0", oor)]
def T2 : List (PySem.Str × PySem.Str) := [("row", wnw), ("row 1 2 3", wnw), ("row bias 3", wnw), ("row 1 2 bias", wnw), ("row 1 2 bias 3 4", wnw), ("row 1 x bias 3", nan), ("row 1048577 2 bias 3", oor), ("row 1 2 bias -1048577", oor), ("row 1 2 bias x", nan), ("row 1 bias 2", wln), ("row 1 2 3 bias 4", wln), ("kernel 1 bias 1", oop), ("relu", oop), ("done", oop), ("sum", oop), ("end", oop)]
def T3 : List (PySem.Str × PySem.Str) := [("kernel 1 2 3 bias 0", wln), ("row 1 bias 2", oop), ("kernel bias 0", wnw), ("max 1", oop), ("kernel 1 2 bias y", nan)]
def T4 : List (PySem.Str × PySem.Str) := [("sum", oop), ("fork", oop), ("done", oop), ("end", oop)]
def T5 : List (PySem.Str × PySem.Str) := [("with", oop), ("fork", oop), ("end", wln), ("max 3", wln)]
theorem cs_ck {pre : List PySem.Str} {tbl : List (PySem.Str × PySem.Str)} {good : PySem.Str} (h : ((pre ++ good :: tbl.map (·.1)).all fun x => ckW x && lnOk x) = true) : ∀ x ∈ pre ++ good :: tbl.map (·.1), ckW x = true ∧ lnOk x = true := fun x hx => by
  have := List.all_eq_true.mp h x hx
  rwa [Bool.and_eq_true] at this
theorem cs0_0 : Cs [] T0 "relu" := ⟨fun f => by kernel_rfl, fun f => by kernel_rfl, cs_ck (by decide +kernel), by decide +kernel⟩
theorem cs0_1 : Cs ["relu"] T0 "relu" := ⟨fun f => by kernel_rfl, fun f => by kernel_rfl, cs_ck (by decide +kernel), by decide +kernel⟩
theorem cs0_2 : Cs ["relu", "clamp -5 5"] T0 "relu" := ⟨fun f => by kernel_rfl, fun f => by kernel_rfl, cs_ck (by decide +kernel), by decide +kernel⟩
theorem cs1_0 : Cs [] T1 "max 2" := ⟨fun f => by kernel_rfl, fun f => by kernel_rfl, cs_ck (by decide +kernel), by decide +kernel⟩
theorem cs1_1 : Cs ["mean 1"] T1 "max 2" := ⟨fun f => by kernel_rfl, fun f => by kernel_rfl, cs_ck (by decide +kernel), by decide +kernel⟩
theorem cs1_2 : Cs ["mean 1", "relu"] T1 "max 2" := ⟨fun f => by kernel_rfl, fun f => by kernel_rfl, cs_ck (by decide +kernel), by decide +kernel⟩
theorem cs2 : Cs ["dense"] T2 "row 1048576 -1048576 bias 0" := ⟨fun f => by kernel_rfl, fun f => by kernel_rfl, cs_ck (by decide +kernel), by decide +kernel⟩
theorem cs3 : Cs ["conv 1"] T3 "kernel 1 2 bias 0" := ⟨fun f => by kernel_rfl, fun f => by kernel_rfl, cs_ck (by decide +kernel), by decide +kernel⟩
theorem cs4 : Cs ["sum", "relu"] T4 "with" := ⟨fun f => by kernel_rfl, fun f => by kernel_rfl, cs_ck (by decide +kernel), by decide +kernel⟩
theorem cs5 : Cs ["sum", "dense", "row 1 2 bias 0", "with"] T5 "max 2" := ⟨fun f => by kernel_rfl, fun f => by kernel_rfl, cs_ck (by decide +kernel), by decide +kernel⟩
end LAW


end
section
open PySem L2 ML
local instance : Tabs := ⟨fun _ => False⟩
namespace LAW
def sL (l : List PySem.Str) : D := .lst (l.map D.str)
def tL (l : List (PySem.Str × PySem.Str)) : D := .lst (l.map fun p => .lst [.str p.1, .str p.2])
def aD (pre : List PySem.Str) (tbl : List (PySem.Str × PySem.Str)) (good : PySem.Str) : D := .lst [sL pre, tL tbl, .str good]
theorem places_ok : m__law_places [] = .ok (tL (T0.take 10)) := by kernel_rfl
theorem counts_ok : m__law_counts [] = .ok (tL (T0.drop 10)) := by kernel_rfl
theorem numbers_ok : m__law_numbers [] = .ok (tL T1) := by kernel_rfl
theorem ahead2 (bs : List D) : m__law_ahead bs [.int 2] = .ok (aD ["dense"] T2 "row 1048576 -1048576 bias 0", bs) := by kernel_rfl
theorem ahead3 (bs : List D) : m__law_ahead bs [.int 3] = .ok (aD ["conv 1"] T3 "kernel 1 2 bias 0", bs) := by kernel_rfl
theorem ahead4 (bs : List D) : m__law_ahead bs [.int 4] = .ok (aD ["sum", "relu"] T4 "with", bs) := by kernel_rfl
theorem ahead5 (bs : List D) : m__law_ahead bs [.int 5] = .ok (aD ["sum", "dense", "row 1 2 bias 0", "with"] T5 "max 2", bs) := by kernel_rfl
theorem slD_take (xs : List D) (n : Nat) : slD (.lst xs) none (some (n : Int)) = .ok (.lst (xs.take n)) := by
  have h0 : HT.sIx xs.length 0 none = 0 := rfl
  show Res.ok (D.lst ((xs.drop (HT.sIx xs.length 0 none)).take (HT.sIx xs.length xs.length (some (n : Int)) - HT.sIx xs.length 0 none))) = _
  rw [h0, HT.sIx_nat, List.drop_zero, Nat.sub_zero]
  congr 2
  by_cases h : n ≤ xs.length
  · rw [Nat.min_eq_left h]
  · rw [Nat.min_eq_right (by omega), List.take_of_length_le (Nat.le_refl _), List.take_of_length_le (by omega)]
def L0 : List PySem.Str := ["relu", "clamp -5 5", "dense", "row 1 2 bias 3", "row 0 0 bias 0"]
def L1 : List PySem.Str := ["mean 1", "relu"]
theorem ahead0 {ds : List Int} {bs : List D} (B : Box ds bs) : ∃ (n : Nat) (bs' : List D), n < 3 ∧ Box ds bs' ∧ m__law_ahead bs [.int 0] = .ok (aD (L0.take n) T0 "relu", bs') := by
  obtain ⟨v, b1, e1, B1, l1, u1⟩ := draw_ok B (many := 3) (by omega)
  obtain ⟨n, rfl⟩ : ∃ n : Nat, v = (n : Int) := ⟨v.toNat, by omega⟩
  refine ⟨n, b1, by omega, B1, ?_⟩
  have sl : slD (sL L0) none (some (n : Int)) = .ok (sL (L0.take n)) := by
    unfold sL
    rw [slD_take, List.map_take]
  have ad : addD (tL (T0.take 10)) (tL (T0.drop 10)) = .ok (tL T0) := by kernel_rfl
  have p := places_ok
  have c := counts_ok
  have z5 : 5 ≤ sizeLine := by decide
  have z3 : 3 ≤ sizeLine := by decide
  have z0 : ∀ ρ : En, oE (oLst (aCons (eC (.str "relu")) (aCons (eC (.str "clamp -5 5")) (aCons (eC (.str "dense")) (aCons (eC (.str "row 1 2 bias 3")) (aCons (eC (.str "row 0 0 bias 0")) (aNil))))))) ρ = .ok (sL L0, ρ) := fun ρ => by
    show _ = Res.ok (D.lst [.str "relu", .str "clamp -5 5", .str "dense", .str "row 1 2 bias 3", .str "row 0 0 bias 0"], ρ)
    generalize D.str "relu" = C1
    generalize D.str "clamp -5 5" = C2
    generalize D.str "dense" = C3
    generalize D.str "row 1 2 bias 3" = C4
    generalize D.str "row 0 0 bias 0" = C5
    simp (decide := true) -implicitDefEqProofs [z5]
  unfold m__law_ahead
  rw [runB_if]
  unfold b__law_ahead aD
  clear B1 B
  generalize (oE (oLst (aCons (eC (.str "relu")) (aCons (eC (.str "clamp -5 5")) (aCons (eC (.str "dense")) (aCons (eC (.str "row 1 2 bias 3")) (aCons (eC (.str "row 0 0 bias 0")) (aNil)))))))) = EL at *
  generalize sL (L0.take n) = SL at *
  generalize sL L0 = SL0 at *
  generalize tL T0 = TT at *
  generalize tL (T0.take 10) = TA at *
  generalize tL (T0.drop 10) = TB_ at *
  generalize D.str "relu" = RL at *
  generalize (n : Int) = N at *
  simp (decide := true) -implicitDefEqProofs [startE, z0, e1, sl, ad, p, c, z3, pSo]
theorem ahead1 {ds : List Int} {bs : List D} (B : Box ds bs) : ∃ (n : Nat) (bs' : List D), n < 3 ∧ Box ds bs' ∧ m__law_ahead bs [.int 1] = .ok (aD (L1.take n) T1 "max 2", bs') := by
  obtain ⟨v, b1, e1, B1, l1, u1⟩ := draw_ok B (many := 3) (by omega)
  obtain ⟨n, rfl⟩ : ∃ n : Nat, v = (n : Int) := ⟨v.toNat, by omega⟩
  refine ⟨n, b1, by omega, B1, ?_⟩
  have sl : slD (sL L1) none (some (n : Int)) = .ok (sL (L1.take n)) := by
    unfold sL
    rw [slD_take, List.map_take]
  have p := numbers_ok
  have z2 : 2 ≤ sizeLine := by decide
  have z3 : 3 ≤ sizeLine := by decide
  have z0 : ∀ ρ : En, oE (oLst (aCons (eC (.str "mean 1")) (aCons (eC (.str "relu")) (aNil)))) ρ = .ok (sL L1, ρ) := fun ρ => by
    show _ = Res.ok (D.lst [.str "mean 1", .str "relu"], ρ)
    generalize D.str "relu" = C1
    generalize D.str "mean 1" = C2
    simp (decide := true) -implicitDefEqProofs [z2]
  unfold m__law_ahead
  rw [runB_if]
  unfold b__law_ahead aD
  clear B1 B
  generalize (oE (oLst (aCons (eC (.str "mean 1")) (aCons (eC (.str "relu")) (aNil))))) = EL at *
  generalize sL (L1.take n) = SL at *
  generalize sL L1 = SL0 at *
  generalize tL T1 = TT at *
  generalize D.str "max 2" = RL at *
  generalize (n : Int) = N at *
  simp (decide := true) -implicitDefEqProofs [startE, z0, e1, sl, p, z3, pSo]
theorem ahead_ok {ds : List Int} {bs : List D} (B : Box ds bs) {k : Int} (h0 : 0 ≤ k) (h6 : k < 6) : ∃ (pre : List PySem.Str) (tbl : List (PySem.Str × PySem.Str)) (good : PySem.Str) (bs' : List D), m__law_ahead bs [.int k] = .ok (aD pre tbl good, bs') ∧ Box ds bs' ∧ Cs pre tbl good ∧ 0 < tbl.length ∧ tbl.length ≤ 30 ∧ pre.length ≤ 4 := by
  have : k = 0 ∨ k = 1 ∨ k = 2 ∨ k = 3 ∨ k = 4 ∨ k = 5 := by omega
  rcases this with rfl | rfl | rfl | rfl | rfl | rfl
  · obtain ⟨n, b1, hn, B1, e⟩ := ahead0 B
    refine ⟨_, _, _, b1, e, B1, ?_, by decide, by decide, by rw [List.length_take]; omega⟩
    match n, hn with
    | 0, _ => exact cs0_0
    | 1, _ => exact cs0_1
    | 2, _ => exact cs0_2
  · obtain ⟨n, b1, hn, B1, e⟩ := ahead1 B
    refine ⟨_, _, _, b1, e, B1, ?_, by decide, by decide, by rw [List.length_take]; omega⟩
    match n, hn with
    | 0, _ => exact cs1_0
    | 1, _ => exact cs1_1
    | 2, _ => exact cs1_2
  · exact ⟨_, _, _, bs, ahead2 bs, B, cs2, by decide, by decide, by decide⟩
  · exact ⟨_, _, _, bs, ahead3 bs, B, cs3, by decide, by decide, by decide⟩
  · exact ⟨_, _, _, bs, ahead4 bs, B, cs4, by decide, by decide, by decide⟩
  · exact ⟨_, _, _, bs, ahead5 bs, B, cs5, by decide, by decide, by decide⟩
end LAW


end
section
open PySem L2 ML
local instance : Tabs := ⟨fun _ => False⟩
namespace LAW
/-! ### the law's ends -/
def E0 : MS := sSet 1 (oE (oLst (aCons (eC (.str "net 2")) (aCons (eC (.str "relu")) (aCons (eC (.str "dense")) (aCons (eC (.str "row 1 2 bias 3")) (aCons (eC (.str "done")) (aNil))))))))
def E1 : MS := sSet 2 (eCallB m__law_draw 0 (aCons (eC (.int (5))) (aNil)))
def E2 : MS := sSet 3 (eJoinS "\n" (eSl (eVar 1) (pNo) (pSo (eVar 2))))
def E3 : MS := sSet 4 (eTup (aCons (eB maxD (aCons (eVar 2) (aCons (eC (.int (1))) (aNil)))) (aCons (eC (.str "done expected")) (aNil))))
def E4 : MS := sSet 5 (eCallB m__law_draw 0 (aCons (eC (.int (5))) (aNil)))
def E5 : MS := sIf (bV (ML.e2 eqD (eVar 5) (eC (.int (0))))) (sRet (ML.e2 eqD (eCall m__law_read (aCons (ML.e2 addD (eVar 3) (eC (.str "\n"))) (aNil))) (eTup (aCons (ML.e2 addD (ML.e2 addD (eIxV 4 (eC (.int (0)))) (eB intD (aCons (ML.e2 gtD (eVar 2) (eC (.int (0)))) (aNil)))) (eB intD (aCons (ML.e2 eqD (eVar 2) (eC (.int (0)))) (aNil)))) (aCons (eC (.str "done expected")) (aNil)))))) (sNil)
def E6 : MS := sIf (bV (ML.e2 eqD (eVar 5) (eC (.int (1))))) (sRet (ML.e2 eqD (eCall m__law_read (aCons (eC (.str "net 2\ndone\n\n#\nrelu")) (aNil))) (eTup (aCons (eC (.int (5))) (aCons (eC (.str "word out of place")) (aNil)))))) (sNil)
def E7 : MS := sIf (bV (ML.e2 eqD (eVar 5) (eC (.int (2))))) (sRet (ML.e2 eqD (eCall m__law_read (aCons (ML.e2 addD (ML.e2 mulYD (eC (.str "\n")) (eVar 2)) (ML.e2 ixD (oE (oLst (aCons (eC (.str "net")) (aCons (eC (.str "net 2 3")) (aCons (eC (.str "dense")) (aCons (eC (.str "nets 2")) (aNil))))))) (eCallB m__law_draw 0 (aCons (eC (.int (4))) (aNil))))) (aNil))) (eTup (aCons (ML.e2 addD (eVar 2) (eC (.int (1)))) (aCons (eC (.str "net expected")) (aNil)))))) (sNil)
def E8 : MS := sIf (bV (ML.e2 eqD (eVar 5) (eC (.int (3))))) (sRet (ML.e2 eqD (eCall m__law_read (aCons (ML.e2 addD (ML.e2 addD (ML.e2 addD (eC (.str "net 2\n")) (ML.e2 mulYD (eC (.str "relu\n")) (eVar 2))) (eC (.str "# 	\n"))) (eC (.str "row"))) (aNil))) (eTup (aCons (ML.e2 addD (eVar 2) (eC (.int (2)))) (aCons (eC (.str "character not allowed")) (aNil)))))) (sNil)
def E9 : MS := sRet (ML.e2 eqD (eCall m__law_read (aCons (eVar 3) (aNil))) (eVar 4))
def ETL : MS := sSeq E5 (sSeq E6 (sSeq E7 (sSeq E8 E9)))
theorem ends_is : b__law_ends = sSeq E0 (sSeq E1 (sSeq E2 (sSeq E3 (sSeq E4 ETL)))) := rfl
def ENL : D := .lst [.str "net 2", .str "relu", .str "dense", .str "row 1 2 bias 3", .str "done"]
def txN : Nat → PySem.Str
  | 0 => ""
  | 1 => "net 2"
  | 2 => "net 2\nrelu"
  | 3 => "net 2\nrelu\ndense"
  | _ => "net 2\nrelu\ndense\nrow 1 2 bias 3"
def duN (n : Nat) : D := .tup [.int (if n = 0 then 1 else n), .str "done expected"]
def enE (bs : List D) (n : Nat) (x5 : Option MV) : En := [some (.own bs), some (.dat ENL), some (.dat (.int (n : Int))), some (.dat (.str (txN n))), some (.dat (duN n)), x5]
theorem e0_ok (bs : List D) : E0 [some (.own bs), none, none, none, none, none] = .ok (.nx [some (.own bs), some (.dat ENL), none, none, none, none]) := by kernel_rfl
def e23 (n : Nat) : Prop := ∀ bs : List D, sSeq E2 E3 [some (.own bs), some (.dat ENL), some (.dat (.int (n : Int))), none, none, none] = .ok (.nx (enE bs n none))
def etl (n k : Nat) : Prop := ∀ bs : List D, ETL (enE bs n (some (.dat (.int (k : Int))))) = .ok (.rt (.bl true) (enE bs n (some (.dat (.int (k : Int))))))
theorem e23_0 : e23 0 := fun bs => by kernel_rfl
theorem etl_00 : etl 0 0 := fun bs => by kernel_rfl
theorem etl_01 : etl 0 1 := fun bs => by kernel_rfl
theorem etl_03 : etl 0 3 := fun bs => by kernel_rfl
theorem etl_04 : etl 0 4 := fun bs => by kernel_rfl
theorem e23_1 : e23 1 := fun bs => by kernel_rfl
theorem etl_10 : etl 1 0 := fun bs => by kernel_rfl
theorem etl_11 : etl 1 1 := fun bs => by kernel_rfl
theorem etl_13 : etl 1 3 := fun bs => by kernel_rfl
theorem etl_14 : etl 1 4 := fun bs => by kernel_rfl
theorem e23_2 : e23 2 := fun bs => by kernel_rfl
theorem etl_20 : etl 2 0 := fun bs => by kernel_rfl
theorem etl_21 : etl 2 1 := fun bs => by kernel_rfl
theorem etl_23 : etl 2 3 := fun bs => by kernel_rfl
theorem etl_24 : etl 2 4 := fun bs => by kernel_rfl
theorem e23_3 : e23 3 := fun bs => by kernel_rfl
theorem etl_30 : etl 3 0 := fun bs => by kernel_rfl
theorem etl_31 : etl 3 1 := fun bs => by kernel_rfl
theorem etl_33 : etl 3 3 := fun bs => by kernel_rfl
theorem etl_34 : etl 3 4 := fun bs => by kernel_rfl
theorem e23_4 : e23 4 := fun bs => by kernel_rfl
theorem etl_40 : etl 4 0 := fun bs => by kernel_rfl
theorem etl_41 : etl 4 1 := fun bs => by kernel_rfl
theorem etl_43 : etl 4 3 := fun bs => by kernel_rfl
theorem etl_44 : etl 4 4 := fun bs => by kernel_rfl
theorem e23_ok : ∀ n : Nat, n < 5 → e23 n
  | 0, _ => e23_0
  | 1, _ => e23_1
  | 2, _ => e23_2
  | 3, _ => e23_3
  | 4, _ => e23_4
theorem etl_ok : ∀ n k : Nat, n < 5 → k < 5 → k ≠ 2 → etl n k
  | 0, 0, _, _, _ => etl_00
  | 0, 1, _, _, _ => etl_01
  | 0, 3, _, _, _ => etl_03
  | 0, 4, _, _, _ => etl_04
  | 1, 0, _, _, _ => etl_10
  | 1, 1, _, _, _ => etl_11
  | 1, 3, _, _, _ => etl_13
  | 1, 4, _, _, _ => etl_14
  | 2, 0, _, _, _ => etl_20
  | 2, 1, _, _, _ => etl_21
  | 2, 3, _, _, _ => etl_23
  | 2, 4, _, _, _ => etl_24
  | 3, 0, _, _, _ => etl_30
  | 3, 1, _, _, _ => etl_31
  | 3, 3, _, _, _ => etl_33
  | 3, 4, _, _, _ => etl_34
  | 4, 0, _, _, _ => etl_40
  | 4, 1, _, _, _ => etl_41
  | 4, 3, _, _, _ => etl_43
  | 4, 4, _, _, _ => etl_44
  | 0, 2, _, _, h => absurd rfl h
  | 1, 2, _, _, h => absurd rfl h
  | 2, 2, _, _, h => absurd rfl h
  | 3, 2, _, _, h => absurd rfl h
  | 4, 2, _, _, h => absurd rfl h
def nlN : Nat → PySem.Str
  | 0 => ""
  | 1 => "\n"
  | 2 => "\n\n"
  | 3 => "\n\n\n"
  | _ => "\n\n\n\n"
def ntN : Nat → PySem.Str
  | 0 => "net"
  | 1 => "net 2 3"
  | 2 => "dense"
  | _ => "nets 2"
def NTL : List D := [.str "net", .str "net 2 3", .str "dense", .str "nets 2"]
structure K2 (n d : Nat) : Prop where
  mu : mulYD (.str "\n") (.int (n : Int)) = .ok (.str (nlN n))
  ix : ixD (.lst NTL) (.int (d : Int)) = .ok (.str (ntN d))
  ad : addD (.str (nlN n)) (.str (ntN d)) = .ok (.str (nlN n ++ ntN d))
  rd : m__law_read [.str (nlN n ++ ntN d)] = .ok (.tup [.int ((n : Int) + 1), .str "net expected"])
  eq : eqD (.tup [.int ((n : Int) + 1), .str "net expected"]) (.tup [.int ((n : Int) + 1), .str "net expected"]) = .ok (.bl true)
theorem k2_00 : K2 0 0 := ⟨by kernel_rfl, by kernel_rfl, by kernel_rfl, by kernel_rfl, by kernel_rfl⟩
theorem k2_01 : K2 0 1 := ⟨by kernel_rfl, by kernel_rfl, by kernel_rfl, by kernel_rfl, by kernel_rfl⟩
theorem k2_02 : K2 0 2 := ⟨by kernel_rfl, by kernel_rfl, by kernel_rfl, by kernel_rfl, by kernel_rfl⟩
theorem k2_03 : K2 0 3 := ⟨by kernel_rfl, by kernel_rfl, by kernel_rfl, by kernel_rfl, by kernel_rfl⟩
theorem k2_10 : K2 1 0 := ⟨by kernel_rfl, by kernel_rfl, by kernel_rfl, by kernel_rfl, by kernel_rfl⟩
theorem k2_11 : K2 1 1 := ⟨by kernel_rfl, by kernel_rfl, by kernel_rfl, by kernel_rfl, by kernel_rfl⟩
theorem k2_12 : K2 1 2 := ⟨by kernel_rfl, by kernel_rfl, by kernel_rfl, by kernel_rfl, by kernel_rfl⟩
theorem k2_13 : K2 1 3 := ⟨by kernel_rfl, by kernel_rfl, by kernel_rfl, by kernel_rfl, by kernel_rfl⟩
theorem k2_20 : K2 2 0 := ⟨by kernel_rfl, by kernel_rfl, by kernel_rfl, by kernel_rfl, by kernel_rfl⟩
theorem k2_21 : K2 2 1 := ⟨by kernel_rfl, by kernel_rfl, by kernel_rfl, by kernel_rfl, by kernel_rfl⟩
theorem k2_22 : K2 2 2 := ⟨by kernel_rfl, by kernel_rfl, by kernel_rfl, by kernel_rfl, by kernel_rfl⟩
theorem k2_23 : K2 2 3 := ⟨by kernel_rfl, by kernel_rfl, by kernel_rfl, by kernel_rfl, by kernel_rfl⟩
theorem k2_30 : K2 3 0 := ⟨by kernel_rfl, by kernel_rfl, by kernel_rfl, by kernel_rfl, by kernel_rfl⟩
theorem k2_31 : K2 3 1 := ⟨by kernel_rfl, by kernel_rfl, by kernel_rfl, by kernel_rfl, by kernel_rfl⟩
theorem k2_32 : K2 3 2 := ⟨by kernel_rfl, by kernel_rfl, by kernel_rfl, by kernel_rfl, by kernel_rfl⟩
theorem k2_33 : K2 3 3 := ⟨by kernel_rfl, by kernel_rfl, by kernel_rfl, by kernel_rfl, by kernel_rfl⟩
theorem k2_40 : K2 4 0 := ⟨by kernel_rfl, by kernel_rfl, by kernel_rfl, by kernel_rfl, by kernel_rfl⟩
theorem k2_41 : K2 4 1 := ⟨by kernel_rfl, by kernel_rfl, by kernel_rfl, by kernel_rfl, by kernel_rfl⟩
theorem k2_42 : K2 4 2 := ⟨by kernel_rfl, by kernel_rfl, by kernel_rfl, by kernel_rfl, by kernel_rfl⟩
theorem k2_43 : K2 4 3 := ⟨by kernel_rfl, by kernel_rfl, by kernel_rfl, by kernel_rfl, by kernel_rfl⟩
theorem k2_ok : ∀ n d : Nat, n < 5 → d < 4 → K2 n d
  | 0, 0, _, _ => k2_00
  | 0, 1, _, _ => k2_01
  | 0, 2, _, _ => k2_02
  | 0, 3, _, _ => k2_03
  | 1, 0, _, _ => k2_10
  | 1, 1, _, _ => k2_11
  | 1, 2, _, _ => k2_12
  | 1, 3, _, _ => k2_13
  | 2, 0, _, _ => k2_20
  | 2, 1, _, _ => k2_21
  | 2, 2, _, _ => k2_22
  | 2, 3, _, _ => k2_23
  | 3, 0, _, _ => k2_30
  | 3, 1, _, _ => k2_31
  | 3, 2, _, _ => k2_32
  | 3, 3, _, _ => k2_33
  | 4, 0, _, _ => k2_40
  | 4, 1, _, _ => k2_41
  | 4, 2, _, _ => k2_42
  | 4, 3, _, _ => k2_43
theorem etl2 {ds : List Int} {bs : List D} (B : Box ds bs) {n : Nat} (hn : n < 5) : ∃ bs', Box ds bs' ∧ ETL (enE bs n (some (.dat (.int 2)))) = .ok (.rt (.bl true) (enE bs' n (some (.dat (.int 2))))) := by
  obtain ⟨v, b1, e1, B1, l1, u1⟩ := draw_ok B (many := 4) (by omega)
  obtain ⟨d, rfl⟩ : ∃ d : Nat, v = (d : Int) := ⟨v.toNat, by omega⟩
  refine ⟨b1, B1, ?_⟩
  obtain ⟨mu, ix, ad, rd, eq⟩ := k2_ok n d hn (by omega)
  have z0 : ∀ ρ : En, oE (oLst (aCons (eC (.str "net")) (aCons (eC (.str "net 2 3")) (aCons (eC (.str "dense")) (aCons (eC (.str "nets 2")) (aNil)))))) ρ = .ok (.lst NTL, ρ) := fun ρ => by
    unfold NTL
    have z4 : 4 ≤ sizeLine := by decide
    generalize D.str "net" = C1
    generalize D.str "net 2 3" = C2
    generalize D.str "dense" = C3
    generalize D.str "nets 2" = C4
    simp (decide := true) -implicitDefEqProofs [z4]
  unfold ETL E5 E6 E7 enE
  clear B B1
  generalize (oE (oLst (aCons (eC (.str "net")) (aCons (eC (.str "net 2 3")) (aCons (eC (.str "dense")) (aCons (eC (.str "nets 2")) (aNil))))))) = EL at *
  generalize D.lst NTL = TT at *
  generalize nlN n ++ ntN d = CC at *
  generalize nlN n = AA at *
  generalize ntN d = BB at *
  generalize txN n = TX at *
  generalize duN n = DU at *
  generalize sSeq E8 E9 = TLL at *
  generalize D.str "net expected" = NE at *
  generalize D.str "\n" = NL at *
  generalize (d : Int) = DD at *
  generalize (n : Int) = N at *
  generalize (sIf (bV (ML.e2 eqD (eVar 5) (eC (.int (3))))) _ _) = XX at *
  simp (decide := true) -implicitDefEqProofs [z0, e1, mu, ix, ad, rd, eq]
theorem ends_ok {ds : List Int} {bs : List D} (B : Box ds bs) : ∃ bs', Box ds bs' ∧ m__law_ends bs [] = .ok (.bl true, bs') := by
  obtain ⟨v, b1, e1, B1, l1, u1⟩ := draw_ok B (many := 5) (by omega)
  obtain ⟨n, rfl⟩ : ∃ n : Nat, v = (n : Int) := ⟨v.toNat, by omega⟩
  obtain ⟨w, b2, e2, B2, l2, u2⟩ := draw_ok B1 (many := 5) (by omega)
  obtain ⟨k, rfl⟩ : ∃ k : Nat, w = (k : Int) := ⟨w.toNat, by omega⟩
  have fin : ∃ bs', Box ds bs' ∧ ETL (enE b2 n (some (.dat (.int (k : Int))))) = .ok (.rt (.bl true) (enE bs' n (some (.dat (.int (k : Int)))))) := by
    by_cases h2 : k = 2
    · subst h2; exact etl2 B2 (by omega)
    · exact ⟨b2, B2, etl_ok n k (by omega) (by omega) h2 b2⟩
  obtain ⟨b3, B3, e3⟩ := fin
  refine ⟨b3, B3, ?_⟩
  have s0 := e0_ok bs
  have s1 : E1 [some (.own bs), some (.dat ENL), none, none, none, none] = .ok (.nx [some (.own b1), some (.dat ENL), some (.dat (.int (n : Int))), none, none, none]) := by
    unfold E1
    generalize ENL = EN
    generalize (n : Int) = N at *
    simp (decide := true) -implicitDefEqProofs [e1]
  have s2 := e23_ok n (by omega) b1
  have s4 : E4 (enE b1 n none) = .ok (.nx (enE b2 n (some (.dat (.int (k : Int)))))) := by
    unfold E4 enE
    generalize ENL = EN
    generalize duN n = DU
    generalize (n : Int) = N at *
    generalize (k : Int) = K at *
    simp (decide := true) -implicitDefEqProofs [e2]
  have b : b__law_ends [some (.own bs), none, none, none, none, none] = .ok (.rt (.bl true) (enE b3 n (some (.dat (.int (k : Int)))))) := by
    rw [ends_is, seq_ok s0, seq_ok s1, seq2_ok s2, seq_ok s4, e3]
  unfold m__law_ends
  rw [runB_if, if_pos (show ([] : List D).length + 1 = 1 from rfl)]
  show ((b__law_ends [some (.own bs), none, none, none, none, none]).keep).bind Fl.outB = _
  rw [b]
  rfl
end LAW


end
section
open PySem L2 ML
local instance : Tabs := ⟨fun _ => False⟩
namespace LAW
/-! ### the law's parts -/
theorem words_fin (x : PySem.Str) : Txt.words x = KWd.fin (KWd.scan x) := by
  have h : KWd.scan x = ((KWd.scan x).1, (KWd.scan x).2) := rfl
  rw [KWd.words_of h]
  rfl
theorem step_sp (acc : List PySem.Str) (cur : PySem.Str) : KWd.step (acc, cur) 32 = (KWd.fin (acc, cur), PySem.Str.empty) := by
  unfold KWd.step KWd.fin
  rw [if_pos (by decide +kernel)]
  by_cases h : cur.length = 0
  · rw [if_pos h, if_pos h]
    have : cur = PySem.Str.empty := sg_inj (List.eq_nil_of_length_eq_zero (by rw [← len_sg]; exact h))
    rw [this]
  · rw [if_neg h, if_neg h]
def sps (n : Nat) : List Nat := List.replicate n 32
theorem words_sps : ∀ n, Txt.words (tx (sps n)) = [] := fun n => by
  have e : KWd.scan (tx (sps n)) = ([], PySem.Str.empty) := by
    show (sps n).foldl KWd.step ([], PySem.Str.empty) = _
    induction n with
    | zero => rfl
    | succ n ih =>
      show (32 :: sps n).foldl KWd.step ([], PySem.Str.empty) = _
      rw [List.foldl_cons, step_sp]
      exact ih
  rw [words_fin, e]
  rfl
theorem rep_sp (n : Nat) : repS " " n = tx (sps n) := by
  refine sg_inj ?_
  rw [sg_tx]
  have e : (" " : PySem.Str) = tx [32] := by decide +kernel
  rw [e]
  show ((List.replicate n [32]).flatten).toArray.toList = _
  have : ∀ n, (List.replicate n [32]).flatten = sps n := by
    intro n
    induction n with
    | zero => rfl
    | succ n ih => rw [List.replicate_succ, List.flatten_cons, ih]; rfl
  rw [this]
theorem len_sps (n : Nat) : (tx (sps n)).length = n := by rw [len_sg, sg_tx]; exact List.length_replicate
theorem al_sps (n : Nat) : AlL (tx (sps n)) := fun c hc => by
  rw [sg_tx] at hc
  rw [List.eq_of_mem_replicate hc]
  decide
def P0 : MS := sSet 1 (eCallB m__law_draw 0 (aCons (eC (.int (6))) (aNil)))
def P1 : MS := sIf (bV (ML.e2 eqD (eVar 1) (eC (.int (0))))) (sRet (ML.e2 eqD (eCall m__law_read (aCons (ML.e2 addD (ML.e2 addD (eC (.str "net 2\n")) (ML.e2 mulYD (eC (.str "relu\n")) (eC (.int (13))))) (eC (.str "done"))) (aNil))) (eTup (aCons (eC (.int (14))) (aCons (eC (.str "too many parts")) (aNil)))))) (sNil)
def P2 : MS := sIf (bV (ML.e2 eqD (eVar 1) (eC (.int (1))))) (sRet (ML.e2 eqD (eCall m__law_read (aCons (ML.e2 addD (ML.e2 addD (eC (.str "net 2\ndense\n")) (ML.e2 mulYD (eC (.str "row 1 2 bias 3\n")) (eC (.int (17))))) (eC (.str "done"))) (aNil))) (eTup (aCons (eC (.int (19))) (aCons (eC (.str "too many parts")) (aNil)))))) (sNil)
def P3 : MS := sIf (bV (ML.e2 eqD (eVar 1) (eC (.int (2))))) (sRet (ML.e2 eqD (eCall m__law_read (aCons (ML.e2 addD (ML.e2 addD (eC (.str "net 2\nconv 1\n")) (ML.e2 mulYD (eC (.str "kernel 1 bias 3\n")) (eC (.int (5))))) (eC (.str "done"))) (aNil))) (eTup (aCons (eC (.int (7))) (aCons (eC (.str "too many parts")) (aNil)))))) (sNil)
def P4 : MS := sIf (bV (ML.e2 eqD (eVar 1) (eC (.int (3))))) (sRet (ML.e2 eqD (eCall m__law_read (aCons (ML.e2 addD (ML.e2 addD (eC (.str "net 9\n")) (ML.e2 mulYD (eC (.str "fork\nwith\nend\n")) (eC (.int (3))))) (eC (.str "done"))) (aNil))) (eTup (aCons (eC (.int (10))) (aCons (eC (.str "wrong length")) (aNil)))))) (sNil)
def P5 : MS := sIf (bV (ML.e2 eqD (eVar 1) (eC (.int (4))))) (sRet (ML.e2 eqD (eCall m__law_read (aCons (ML.e2 addD (ML.e2 addD (eC (.str "net 16\nconv 1\n")) (ML.e2 mulYD (eC (.str "kernel 1 bias 0\n")) (eC (.int (4))))) (eC (.str "conv 1\nkernel 1 bias 0\nkernel 1 bias 0\nxx"))) (aNil))) (eTup (aCons (eC (.int (9))) (aCons (eC (.str "wrong length")) (aNil)))))) (sNil)
def P6 : MS := sSet 2 (ML.e2 addD (eC (.int (59998))) (eCallB m__law_draw 0 (aCons (eC (.int (5))) (aNil))))
def P7 : MS := sSet 3 (eC (.str "net 2\ndone\n"))
def P8 : MS := sSet 4 (eTup (aCons (eC (.str "net")) (aCons (eC (.int (2))) (aCons (eTup (aNil)) (aNil)))))
def P9 : MS := sIf (bV (ML.e2 gtD (eVar 2) (eC (.int (60000))))) (sSet 4 (eTup (aCons (eC (.int (1))) (aCons (eC (.str "text too long")) (aNil))))) (sNil)
def P10 : MS := sRet (ML.e2 eqD (eCall m__law_read (aCons (ML.e2 addD (eVar 3) (ML.e2 mulYD (eC (.str " ")) (ML.e2 subD (eVar 2) (eB lenD (aCons (eVar 3) (aNil)))))) (aNil))) (eVar 4))
def PTL : MS := sSeq P1 (sSeq P2 (sSeq P3 (sSeq P4 (sSeq P5 (sSeq P6 (sSeq P7 (sSeq P8 (sSeq P9 P10))))))))
theorem parts_is : b__law_parts = sSeq P0 PTL := rfl
def paE (bs : List D) (k : Int) : En := [some (.own bs), some (.dat (.int k)), none, none, none]
theorem ptl_0 (bs : List D) : PTL (paE bs 0) = .ok (.rt (.bl true) (paE bs 0)) := by kernel_rfl
theorem ptl_1 (bs : List D) : PTL (paE bs 1) = .ok (.rt (.bl true) (paE bs 1)) := by kernel_rfl
theorem ptl_2 (bs : List D) : PTL (paE bs 2) = .ok (.rt (.bl true) (paE bs 2)) := by kernel_rfl
theorem ptl_3 (bs : List D) : PTL (paE bs 3) = .ok (.rt (.bl true) (paE bs 3)) := by kernel_rfl
theorem ptl_4 (bs : List D) : PTL (paE bs 4) = .ok (.rt (.bl true) (paE bs 4)) := by kernel_rfl
end LAW


end
section
open PySem L2 ML
local instance : Tabs := ⟨fun _ => False⟩
namespace LAW
/-! ### a long text -/
theorem words_sp {n : Nat} (h : n ≤ 60000) : m_words_of [.str (tx (sps n))] = .ok (.lst []) := by
  have w : wordsD (tx (sps n)) = .ok (.lst []) := by
    unfold wordsD
    rw [if_pos (Nat.le_trans (show (tx (sps n)).length + 2 ≤ 60002 by rw [len_sps]; omega) (by decide)), words_sps]
    rfl
  have l0 : ∀ (g : MG) (b : MS) (ρ : En), loop g b [] ρ = .ok (.nx ρ) := fun _ _ _ => rfl
  unfold m_words_of
  rw [runP_if]
  generalize tx (sps n) = X at *
  simp (decide := true) -implicitDefEqProofs [b_words_of, startE, w, asS, l0]
def netD : D := .tup [.str "net", .int 2, .tup []]
def arF : List AO := match resL (fun k => (k : Int) + 1) arI [wo "net 2", wo "done"] with
  | .ok a => a
  | _ => []
def arE : List AO := match resL (fun k => (k : Int) + 1) arI [wo "net 2"] with
  | .ok a => a
  | _ => []
def arG : List AO := match m_Reader_ended arF 0 [.int 3] with
  | .ok (_, a) => a
  | _ => []
theorem rd1 : m_Reader_read_line arI 0 [.int (((0 : Nat) : Int) + 1), .lst (wo "net 2")] = .ok (.non, arE) := by kernel_rfl
theorem rd2 : m_Reader_read_line arE 0 [.int (((1 : Nat) : Int) + 1), .lst (wo "done")] = .ok (.non, arF) := by kernel_rfl
theorem rd3 : m_Reader_ended arF 0 [.int 3] = .ok (netD, arG) := by kernel_rfl
theorem ins1 : insAt arI 0 "Reader" "read_line" = true := by decide +kernel
theorem ins2 : insAt arE 0 "Reader" "read_line" = true := by decide +kernel
theorem ins3 : insAt arF 0 "Reader" "ended" = true := by decide +kernel
def lgT (n : Nat) : PySem.Str := "net 2\ndone\n" ++ tx (sps n)
theorem lg_split (n : Nat) : Txt.split (lgT n) "\n" = (["net 2", "done", tx (sps n)] : List PySem.Str) := by
  have e : lgT n = PySem.Str.join (tx [10]) (["net 2", "done", tx (sps n)] : List PySem.Str) := by
    apply sg_inj
    unfold lgT
    rw [sg_app, sg_join]
    have a : sg ("net 2\ndone\n" : PySem.Str) = sg ("net 2" : PySem.Str) ++ 10 :: (sg ("done" : PySem.Str) ++ [10]) := by decide +kernel
    rw [a]
    show _ = sg ("net 2" : PySem.Str) ++ 10 :: (sg ("done" : PySem.Str) ++ 10 :: sg (tx (sps n)))
    rw [List.append_assoc, List.cons_append, List.append_assoc]
    rfl
  rw [e, nl_is]
  refine split_jn (by simp) fun p hp hc => ?_
  have h : p = "net 2" ∨ p = "done" ∨ p = tx (sps n) := by simpa using hp
  rcases h with rfl | rfl | rfl
  · exact absurd hc (by decide +kernel)
  · exact absurd hc (by decide +kernel)
  · have := al_sps n 10 hc
    omega
theorem lg_len (n : Nat) : (lgT n).length = 11 + n := by
  rw [len_sg]
  unfold lgT
  rw [sg_app, List.length_append, ← len_sg, ← len_sg, len_sps]
  have : ("net 2\ndone\n" : PySem.Str).length = 11 := by decide +kernel
  rw [this]
theorem lg_parse {n : Nat} (h : n + 11 ≤ 60000) : m_parse [.str (lgT n)] = .ok netD := by
  have hl := lg_len n
  have hs := lg_split n
  have alS := al_sps n
  have w := words_sp (n := n) (by omega)
  generalize tx (sps n) = SP at *
  generalize lgT n = x at *
  have sp : splitD x (.str "\n") = .ok (.lst ((["net 2", "done", SP] : List PySem.Str).map D.str)) := by
    show (if (("\n" : PySem.Str).length == 0) = false ∧ x.length + 2 ≤ sizeLine then Res.ok (D.lst ((Txt.split x "\n").map D.str)) else .stuck) = _
    rw [if_pos ⟨by decide +kernel, Nat.le_trans (show x.length + 2 ≤ 60002 by omega) (by decide)⟩, hs]
  have ll : lenTD [.str x] = .ok (.int (x.length : Int)) := by
    show (if x.length ≤ sizeLine then Res.ok (D.int (x.length : Int)) else .stuck) = _
    rw [if_pos (Nat.le_trans (show x.length ≤ 60000 by omega) (by decide))]
  have n1 : ¬ ((x.length : Int) > 60000) := by omega
  have n2 : ¬ ((60000 : Int) < (x.length : Int)) := n1
  have al : ∀ y ∈ (["net 2", "done", SP] : List PySem.Str), AlL y := fun y hy => by
    have h : y = "net 2" ∨ y = "done" ∨ y = SP := by simpa using hy
    rcases h with rfl | rfl | rfl
    · decide +kernel
    · decide +kernel
    · exact alS
  have c1 := ckW_ok (x := "net 2") (by decide +kernel)
  have c2 := ckW_ok (x := "done") (by decide +kernel)
  obtain ⟨L, hL⟩ : ∃ L, L = (["net 2", "done", SP] : List PySem.Str) := ⟨_, rfl⟩
  obtain ⟨x2, x3, g2, g3, l1⟩ := pb1_loop (some (.dat (.str x))) (some (.dat (.lst (L.map D.str)))) L 0 none none (.inl rfl) (.inl rfl) (by rw [hL]; exact al)
  have l2 : ∀ d1 d2 : D, ∃ y2 y3 y5 : Option MV, loop PG PB2 (eL 0 L) [some (.dat d1), some (.dat d2), x2, x3, rdS arI, none, none] = .ok (.nx [some (.dat d1), some (.dat d2), y2, y3, rdS arF, y5, none]) := fun d1 d2 => by
    rw [hL]
    have t1 := pb2_turn (i := ((0 : Nat) : Int)) c1.1 c1.2 ins1 rd1 d1 d2 none (.inl rfl)
    have t2 := pb2_turn (i := ((1 : Nat) : Int)) c2.1 c2.2 ins2 rd2 d1 d2 (some (.dat (.lst (wo "net 2")))) (.inr ⟨_, rfl⟩)
    have t3 := pb2_skip (i := ((2 : Nat) : Int)) (ar := arF) w d1 d2 (some (.dat (.lst (wo "done"))))
    exact ⟨_, _, _, loop_cons rfl t1 (loop_cons rfl t2 (loop_cons rfl t3 rfl))⟩
  obtain ⟨y2, y3, y5, l2⟩ := l2 (.str x) (.lst (L.map D.str))
  rw [← enum_eL] at l1 l2
  rw [← hL] at sp
  have en : enumD [.lst (L.map D.str)] = .ok (enumL (L.map D.str)) := rfl
  have mk : sMakeR 4 "Reader" m_Reader___init__ [some (.dat (.str x)), some (.dat (.lst (L.map D.str))), x2, x3, none, none, none] = .ok (.nx [some (.dat (.str x)), some (.dat (.lst (L.map D.str))), x2, x3, rdS arI, none, none]) := by
    unfold sMakeR
    rw [arI_ok]
    simp only
    have no : noIns 4 [some (.dat (.str x)), some (.dat (.lst (L.map D.str))), x2, x3, none, none, none] = true := by
      rcases g2 with rfl | ⟨d, rfl⟩ <;> rcases g3 with rfl | ⟨d', rfl⟩ <;> rfl
    rw [if_pos no]
    rfl
  have be : b_parse = sSeq (sIf (bV (ML.e2 gtD (eB lenTD (aCons (eVar 0) (aNil))) (eC (.int (60000))))) (sRaise2 "BadNet" "line" "reason" (aCons (eC (.int (1))) (aCons (eC (.str "text too long")) (aNil)))) (sNil)) (sSeq (sSet 1 (eSM splitD (eVar 0) (eC (.str "\n")))) (sSeq (sFor (mLast (aCons (eVar 1) (aNil)) enumD) PG PB1) (sSeq (sMakeR 4 "Reader" m_Reader___init__) (sSeq (sFor (mLast (aCons (eVar 1) (aNil)) enumD) PG PB2) (sRet (eMethA m_Reader_ended 4 "Reader" "ended" (aCons (eB lenD (aCons (eVar 1) (aNil))) (aNil)))))))) := rfl
  have ln1 : lenD [.lst (L.map D.str)] = .ok (.int 3) := by rw [hL]; rfl
  have r3 := rd3
  have i3 := ins3
  unfold m_parse
  rw [runP_if, be]
  clear al hs g2 g3 be w alS c1 c2 hL
  unfold rdS at mk l2
  generalize enumL (L.map D.str) = EN at *
  generalize D.lst (L.map D.str) = LL at *
  generalize (x.length : Int) = XL at *
  generalize PG = G at *
  generalize PB1 = B1 at *
  generalize PB2 = B2 at *
  generalize arF = AF at *
  generalize netD = ND at *
  simp (decide := true) -implicitDefEqProofs [startE, ll, n1, n2, asS, sp, en, l1, mk, l2, ln1, r3, i3]
theorem read_ok {x : PySem.Str} {d : D} (h : m_parse [.str x] = .ok d) : m__law_read [.str x] = .ok d := by
  have dt : datE [some (.dat (.str x)), none, none] = true := rfl
  unfold m__law_read
  rw [runP_if]
  simp (decide := true) -implicitDefEqProofs [b__law_read, startE, h, dt]
theorem too_long {n : Nat} (h : 60000 < n + 11) (h2 : n ≤ 100000) : m_parse [.str (lgT n)] = .exn "BadNet" [("reason", .str "text too long"), ("line", .int 1)] := by
  have hl := lg_len n
  generalize lgT n = x at *
  have ll : lenTD [.str x] = .ok (.int (x.length : Int)) := by
    show (if x.length ≤ sizeLine then Res.ok (D.int (x.length : Int)) else .stuck) = _
    rw [if_pos (Nat.le_trans (show x.length ≤ 100011 by omega) (by decide))]
  have n1 : ((x.length : Int) > 60000) := by omega
  have n2 : ((60000 : Int) < (x.length : Int)) := n1
  unfold m_parse
  rw [runP_if]
  generalize (x.length : Int) = XL at *
  simp (decide := true) -implicitDefEqProofs [b_parse, startE, ll, n1, n2]
theorem mul_sp {n : Nat} (h : n ≤ 100000) : mulYD (.str " ") (.int (n : Int)) = .ok (.str (tx (sps n))) := by
  have e : (" " : PySem.Str).length = 1 := by decide +kernel
  show (if 0 ≤ (n : Int) ∧ (n : Int) ≤ 1000000 ∧ (" " : PySem.Str).length * (n : Int).toNat ≤ 1000000 then Res.ok (D.str (repS " " (n : Int).toNat)) else .stuck) = _
  rw [if_pos ⟨by omega, by omega, by rw [e]; omega⟩, rep_sp]
  rfl
theorem add_s {a b : PySem.Str} (h : a.length + b.length ≤ 1000000) : addD (.str a) (.str b) = .ok (.str (a ++ b)) := by
  show (if a.length + b.length ≤ sizeLine then Res.ok (D.str (a ++ b)) else .stuck) = _
  rw [if_pos (Nat.le_trans h (by decide))]
theorem parts5 {ds : List Int} {bs : List D} (B : Box ds bs) : ∃ bs' ρ, Box ds bs' ∧ PTL (paE bs 5) = .ok (.rt (.bl true) (some (.own bs') :: ρ)) := by
  obtain ⟨v, b1, e1, B1, l1, u1⟩ := draw_ok B (many := 5) (by omega)
  obtain ⟨n, rfl⟩ : ∃ n : Nat, v = (n : Int) := ⟨v.toNat, by omega⟩
  obtain ⟨m, hm⟩ : ∃ m : Nat, m = 59987 + n := ⟨_, rfl⟩
  have a1 : addD (.int 59998) (.int (n : Int)) = .ok (.int ((m : Int) + 11)) := by
    show Res.ok (D.int (59998 + (n : Int))) = _
    rw [hm]
    congr 2
    omega
  have ln : lenD [.str "net 2\ndone\n"] = .ok (.int 11) := by kernel_rfl
  have sb : subD (.int ((m : Int) + 11)) (.int 11) = .ok (.int (m : Int)) := by
    show Res.ok (D.int ((m : Int) + 11 - 11)) = _
    congr 2
    omega
  have mu := mul_sp (n := m) (by omega)
  have l11 : ("net 2\ndone\n" : PySem.Str).length = 11 := by decide +kernel
  have ad : addD (.str "net 2\ndone\n") (.str (tx (sps m))) = .ok (.str (lgT m)) := add_s (by rw [l11, len_sps]; omega)
  have eq1 : eqD netD netD = .ok (.bl true) := by kernel_rfl
  have eq2 : eqD (.tup [.int 1, .str "text too long"]) (.tup [.int 1, .str "text too long"]) = .ok (.bl true) := by kernel_rfl
  have nt : ∀ ρ : En, eTup (aCons (eC (.str "net")) (aCons (eC (.int (2))) (aCons (eTup (aNil)) (aNil)))) ρ = .ok (netD, ρ) := fun ρ => rfl
  have ex : (PTL (paE bs 5) = sSeq P7 (sSeq P8 (sSeq P9 P10)) [some (.own b1), some (.dat (.int 5)), some (.dat (.int ((m : Int) + 11))), none, none]) := by
    unfold PTL P1 P2 P3 P4 P5 P6 paE
    generalize sSeq P7 (sSeq P8 (sSeq P9 P10)) = TT
    generalize ((m : Int) + 11) = M at *
    generalize (n : Int) = N at *
    simp (decide := true) -implicitDefEqProofs [e1, a1]
  by_cases h : m + 11 ≤ 60000
  · have g : ¬ ((m : Int) + 11 > 60000) := by omega
    have g2 : ¬ (60000 < (m : Int) + 11) := by omega
    have rd := read_ok (lg_parse h)
    refine ⟨b1, [some (.dat (.int 5)), some (.dat (.int ((m : Int) + 11))), some (.dat (.str "net 2\ndone\n")), some (.dat netD)], B1, ex.trans ?_⟩
    unfold P7 P8 P9 P10
    clear ex
    generalize (eTup (aCons (eC (.str "net")) (aCons (eC (.int (2))) (aCons (eTup (aNil)) (aNil))))) = ET at *
    generalize netD = ND at *
    generalize lgT m = LT_ at *
    generalize tx (sps m) = SP at *
    generalize (m : Int) + 11 = M at *
    generalize (m : Int) = MM at *
    generalize D.str "net 2\ndone\n" = DD at *
    generalize D.str " " = BL_ at *
    simp (decide := true) -implicitDefEqProofs [nt, ln, sb, mu, ad, rd, g, g2, eq1]
  · have g : ((m : Int) + 11 > 60000) := by omega
    have g2 : (60000 < (m : Int) + 11) := by omega
    have rd := read_exn (too_long (n := m) (by omega) (by omega))
    refine ⟨b1, [some (.dat (.int 5)), some (.dat (.int ((m : Int) + 11))), some (.dat (.str "net 2\ndone\n")), some (.dat (.tup [.int 1, .str "text too long"]))], B1, ex.trans ?_⟩
    unfold P7 P8 P9 P10
    clear ex
    generalize (eTup (aCons (eC (.str "net")) (aCons (eC (.int (2))) (aCons (eTup (aNil)) (aNil))))) = ET at *
    generalize netD = ND at *
    generalize lgT m = LT_ at *
    generalize tx (sps m) = SP at *
    generalize (m : Int) + 11 = M at *
    generalize (m : Int) = MM at *
    generalize D.str "net 2\ndone\n" = DD at *
    generalize D.str " " = BL_ at *
    generalize D.str "text too long" = TL_ at *
    simp (decide := true) -implicitDefEqProofs [nt, ln, sb, mu, ad, rd, g, g2, eq2]
end LAW


end
section
open PySem L2 ML
local instance : Tabs := ⟨fun _ => False⟩
namespace LAW
theorem parts_ok {ds : List Int} {bs : List D} (B : Box ds bs) : ∃ bs', Box ds bs' ∧ m__law_parts bs [] = .ok (.bl true, bs') := by
  obtain ⟨v, b1, e1, B1, l1, u1⟩ := draw_ok B (many := 6) (by omega)
  have s0 : P0 [some (.own bs), none, none, none, none] = .ok (.nx (paE b1 v)) := by
    unfold P0 paE
    simp (decide := true) -implicitDefEqProofs [e1]
  have fin : ∃ bs' ρ, Box ds bs' ∧ PTL (paE b1 v) = .ok (.rt (.bl true) (some (.own bs') :: ρ)) := by
    have : v = 0 ∨ v = 1 ∨ v = 2 ∨ v = 3 ∨ v = 4 ∨ v = 5 := by omega
    rcases this with rfl | rfl | rfl | rfl | rfl | rfl
    · exact ⟨b1, _, B1, ptl_0 b1⟩
    · exact ⟨b1, _, B1, ptl_1 b1⟩
    · exact ⟨b1, _, B1, ptl_2 b1⟩
    · exact ⟨b1, _, B1, ptl_3 b1⟩
    · exact ⟨b1, _, B1, ptl_4 b1⟩
    · exact parts5 B1
  obtain ⟨b2, ρ, B2, e2⟩ := fin
  refine ⟨b2, B2, ?_⟩
  have b : b__law_parts [some (.own bs), none, none, none, none] = .ok (.rt (.bl true) (some (.own b2) :: ρ)) := by
    rw [parts_is, seq_ok s0, e2]
  unfold m__law_parts
  rw [runB_if, if_pos (show ([] : List D).length + 1 = 1 from rfl)]
  show ((b__law_parts [some (.own bs), none, none, none, none]).keep).bind Fl.outB = _
  rw [b]
  rfl
/-! ### what a text is read as -/
theorem ne_told (a : Int) {x : PySem.Str} (hx : PyData.strOk x = true) : neD (.tup [.int a, .str x]) (.tup [.int a, .str x]) = .ok (.bl false) := by
  have h : neD (.tup [.int a, .str x]) (.tup [.int a, .str x]) = neF (.tup [.int a, .str x]) (.tup [.int a, .str x]) := rfl
  have pu : (D.tup [.int a, .str x]).pure = true := by
    show (true && (PyData.strOk x && true)) = true
    rw [hx]; rfl
  have f : flatD (.tup [.int a, .str x]) = true := by
    show ((D.tup [.int a, .str x]).pure && _) = true
    rw [pu]; rfl
  rw [h, neF_ok f f]
  have : eqB (.tup [.int a, .str x]) (.tup [.int a, .str x]) = true := PySem.SeqAt.eqv_refl _ (canLay_py _ pu)
  rw [this]; rfl
theorem txt_join (x : PySem.Str) (ys : List PySem.Str) : Txt.join x ys = PySem.Str.join x ys := StrLaws.glued_eq_join x ys
theorem allStrs_map : ∀ ys : List PySem.Str, allStrs (ys.map D.str) = some ys
  | [] => rfl
  | y :: ys => by
    show (allStrs (ys.map D.str)).map (y :: ·) = _
    rw [allStrs_map ys]
    rfl
theorem join_n {ys : List PySem.Str} (h : (ys.map (·.length)).sum + ys.length ≤ 16000000) : sjoinD "\n" (.lst (ys.map D.str)) = .ok (.str (PySem.Str.join (tx [10]) ys)) := by
  unfold sjoinD
  simp only [allStrs_map]
  have e : ("\n" : PySem.Str).length = 1 := by decide +kernel
  rw [if_pos (by rw [e, Nat.mul_one]; omega), txt_join, nl_is]
theorem jn_len (c : Nat) : ∀ ps : List (List Nat), (jn c ps).length ≤ (ps.map fun p => p.length + 1).sum
  | [] => Nat.le_refl _
  | [p] => by
    show p.length ≤ [p.length + 1].sum
    simp
  | p :: q :: r => by
    have := jn_len c (q :: r)
    show (p ++ c :: jn c (q :: r)).length ≤ p.length + 1 + ((q :: r).map fun p => p.length + 1).sum
    rw [List.length_append, List.length_cons]
    omega
theorem ln_of {x : PySem.Str} (h : lnOk x = true) : AlL x ∧ x.length ≤ 40 := by
  unfold lnOk at h
  rw [Bool.and_eq_true, decide_eq_true_eq, decide_eq_true_eq] at h
  exact h
theorem sum_ln : ∀ {L : List PySem.Str}, (∀ y ∈ L, lnOk y = true) → (L.map (·.length)).sum ≤ 40 * L.length
  | [], _ => Nat.le_refl _
  | x :: L, h => by
    have := sum_ln fun y hy => h y (List.mem_cons_of_mem _ hy)
    have := (ln_of (h x List.mem_cons_self)).2
    rw [List.map_cons, List.sum_cons, List.length_cons]
    omega
theorem sum_l1 : ∀ L : List PySem.Str, ((L.map sg).map fun p => p.length + 1).sum = (L.map (·.length)).sum + L.length
  | [] => rfl
  | x :: L => by
    rw [List.map_cons, List.map_cons, List.sum_cons, List.map_cons, List.sum_cons, List.length_cons, sum_l1 L, ← len_sg]
    omega
theorem read_wrong {ws : List (List D)} {L R : List PySem.Str} {x rs : PySem.Str} (h : Dc ws L) (hx : ckW x = true) (al : ∀ y ∈ L ++ x :: R, lnOk y = true) (hlen : (L ++ x :: R).length ≤ 1000) (hr : ∀ f : Nat → Int, resL f arI (ws ++ [wo x]) = badR rs (f ws.length)) :
    m__law_read [.str (PySem.Str.join (tx [10]) (L ++ x :: R))] = .ok (.tup [.int ((L.length : Int) + 1), .str rs]) := by
  have sl := sum_ln al
  have lx : (PySem.Str.join (tx [10]) (L ++ x :: R)).length ≤ 60000 := by
    rw [len_sg, sg_join]
    refine Nat.le_trans (jn_len 10 _) ?_
    rw [sum_l1]
    omega
  have sp : Txt.split (PySem.Str.join (tx [10]) (L ++ x :: R)) "\n" = L ++ x :: R := by
    rw [nl_is]
    exact split_jn (by simp) fun p hp hc => by
      have := (ln_of (al p hp)).1 10 hc
      omega
  obtain ⟨c1, c2⟩ := ckW_ok hx
  refine read_exn (parse_bad lx sp (fun y hy => (ln_of (al y hy)).1) fun x2 x3 => ?_)
  obtain ⟨f, hf, e⟩ := pb2_bad (.str (PySem.Str.join (tx [10]) (L ++ x :: R))) (.lst ((L ++ x :: R).map D.str)) h 0
  have hr := hr f
  rw [hf, show ((0 : Nat) : Int) + (L.length : Int) + 1 = (L.length : Int) + 1 by omega] at hr
  exact e arI (wo x) x R _ _ x2 x3 none (.inl rfl) c1 c2 hr
/-! ### lines with comments between -/
theorem wl0 : m_words_of [.str ""] = .ok (.lst []) := by kernel_rfl
theorem wl1 : m_words_of [.str "# 2"] = .ok (.lst []) := by kernel_rfl
theorem wl2 : m_words_of [.str " "] = .ok (.lst []) := by kernel_rfl
theorem wl3 : m_words_of [.str "  # x"] = .ok (.lst []) := by kernel_rfl
def LDS : List PySem.Str := ["", "# 2", " "]
theorem lds_dc : ∀ n, Dc [] (LDS.take n)
  | 0 => .nil
  | 1 => .bl wl0 .nil
  | 2 => .bl wl0 (.bl wl1 .nil)
  | n + 3 => by
    rw [List.take_of_length_le (show LDS.length ≤ n + 3 by show 3 ≤ n + 3; omega)]
    exact .bl wl0 (.bl wl1 (.bl wl2 .nil))
theorem lds_ln (n : Nat) : ∀ y ∈ LDS.take n, lnOk y = true := fun y hy => by
  have : y ∈ LDS := List.mem_of_mem_take hy
  have h : y = "" ∨ y = "# 2" ∨ y = " " := by simpa [LDS] using this
  rcases h with rfl | rfl | rfl <;> decide +kernel
end LAW


end
section
open PySem L2 ML
local instance : Tabs := ⟨fun _ => False⟩
namespace LAW
/-! ### the law -/
def LTL : MS := sSeq (sSet 5 (ML.e2 ixD (eIxV 2 (eC (.int (1)))) (ML.e2 modD (eB intD (aCons (eCallB m__law_draw 1 (aCons (eC (.int (900))) (aNil))) (aNil))) (eB lenD (aCons (eIxV 2 (eC (.int (1)))) (aNil)))))) (sSeq (sSet 6 (eJoinS "\n" (ML.e2 addD (eVar 3) (oE (oLst (aCons (eIxV 5 (eC (.int (0)))) (aCons (eC (.str "zz 1")) (aCons (eC (.str "done")) (aNil))))))))) (sSeq (sIf (bV (ML.e2 neD (eCall m__law_read (aCons (eVar 6) (aNil))) (eTup (aCons (ML.e2 addD (eLenV 3) (eC (.int (1)))) (aCons (eIxV 5 (eC (.int (1)))) (aNil)))))) (sRet (eC (.bl false))) (sNil)) (sSeq (sSet 7 (eCall m__law_read (aCons (eJoinS "\n" (ML.e2 addD (eVar 3) (oE (oLst (aCons (eIxV 2 (eC (.int (2)))) (aCons (eC (.str "zz 1")) (aCons (eC (.str "done")) (aNil)))))))) (aNil)))) (sSeq (sIf (bV (ML.e2 neD (eVar 7) (eTup (aCons (ML.e2 addD (eLenV 3) (eC (.int (2)))) (aCons (eC (.str "unknown word")) (aNil)))))) (sRet (eC (.bl false))) (sNil)) (sRet (vAnd (eCallB m__law_ends 1 (aNil)) (eCallB m__law_parts 1 (aNil))))))))
def LB : MS := (sSeq (sApp 3 (eVar 4)) (sIf (bV (ML.e2 eqD (eCallB m__law_draw 1 (aCons (eC (.int (4))) (aNil))) (eC (.int (0))))) (sApp 3 (eC (.str "  # x"))) (sNil)))
def laE (S A : D) (bs acc : List D) (x4 : Option MV) : En := [some (.dat S), some (.own bs), some (.dat A), some (.own acc), x4, none, none, none]
theorem lb_turn {ds : List Int} {bs : List D} (B : Box ds bs) (S A : D) {acc : List D} (ha : acc.length ≤ 1000) (x : PySem.Str) : ∃ (bs' : List D) (c : List PySem.Str), (c = [] ∨ c = [("  # x" : PySem.Str)]) ∧ Box ds bs' ∧ LB (laE S A bs acc (some (.dat (.str x)))) = .ok (.nx (laE S A bs' (acc ++ D.str x :: c.map D.str) (some (.dat (.str x))))) := by
  obtain ⟨v, b1, e1, B1, l1, u1⟩ := draw_ok B (many := 4) (by omega)
  have z1 : acc.length < sizeLine := Nat.lt_of_lt_of_le (show acc.length < 2000 by omega) (by decide)
  have z2 : acc.length + 1 < sizeLine := Nat.lt_of_lt_of_le (show acc.length + 1 < 2000 by omega) (by decide)
  by_cases h : v = 0
  · refine ⟨b1, [("  # x" : PySem.Str)], .inr rfl, B1, ?_⟩
    unfold LB laE
    simp (decide := true) -implicitDefEqProofs [e1, h, z1, z2]
  · refine ⟨b1, [], .inl rfl, B1, ?_⟩
    unfold LB laE
    simp (decide := true) -implicitDefEqProofs [e1, h, z1, z2]
theorem cm_ln : lnOk "  # x" = true := by decide +kernel
theorem lb_loop {ds : List Int} (S A : D) : ∀ (l : List PySem.Str) (bs acc : List D) (x4 : Option MV), Box ds bs → acc.length + 2 * l.length ≤ 1000 → (∀ x ∈ l, ckW x = true ∧ lnOk x = true) → ∃ (bs' : List D) (E : List PySem.Str) (x4' : Option MV), Dc (l.map wo) E ∧ (∀ y ∈ E, lnOk y = true) ∧ E.length ≤ 2 * l.length ∧ Box ds bs' ∧ loop (gN 4) LB (l.map D.str) (laE S A bs acc x4) = .ok (.nx (laE S A bs' (acc ++ E.map D.str) x4'))
  | [], bs, acc, x4, B, _, _ => ⟨bs, ([] : List PySem.Str), x4, .nil, (fun y hy => by cases hy), Nat.le_refl _, B, by
    show Res.ok (Fl.nx (laE S A bs acc x4)) = Res.ok (Fl.nx (laE S A bs (acc ++ []) x4))
    rw [List.append_nil]⟩
  | x :: l, bs, acc, x4, B, ha, hl => by
    rw [List.length_cons] at ha
    obtain ⟨b1, c, hc, B1, e1⟩ := lb_turn B S A (acc := acc) (by omega) x
    have cl : c.length ≤ 1 := by rcases hc with rfl | rfl <;> decide
    obtain ⟨b2, E, x4', dc, ln, le, B2, e2⟩ := lb_loop S A l b1 (acc ++ D.str x :: c.map D.str) (some (.dat (.str x))) B1 (by rw [List.length_append, List.length_cons, List.length_map]; omega) fun y hy => hl y (List.mem_cons_of_mem _ hy)
    obtain ⟨h1, h2⟩ := hl x List.mem_cons_self
    obtain ⟨w1, w2⟩ := ckW_ok h1
    refine ⟨b2, x :: c ++ E, x4', ?_, ?_, by rw [List.length_append, List.length_cons, List.length_cons]; omega, B2, ?_⟩
    · refine .ln w1 w2 ?_
      rcases hc with rfl | rfl
      · exact dc
      · exact .bl wl3 dc
    · intro y hy
      rcases List.mem_append.mp hy with hy | hy
      · rcases List.mem_cons.mp hy with rfl | hy
        · exact h2
        · rcases hc with rfl | rfl
          · cases hy
          · rcases List.mem_cons.mp hy with rfl | hy
            · exact cm_ln
            · cases hy
      · exact ln y hy
    · have e : acc ++ D.str x :: c.map D.str ++ E.map D.str = acc ++ (x :: c ++ E).map D.str := by
        rw [List.map_append, List.map_cons, List.append_assoc]
      rw [e] at e2
      exact loop_cons rfl e1 e2
theorem law_true (ns : List Int) (hl : ns.length ≤ 63) : m_law [.klst (ns.map D.int)] = .ok (.bl true) := by
  obtain ⟨ds, ed⟩ := digits_ok ns
  have B0 : Box ds [.lst (ds.map D.int), .int 0] := ⟨0, rfl⟩
  obtain ⟨k, b1, e1, B1, l1, u1⟩ := draw_ok B0 (many := 6) (by omega)
  obtain ⟨pre, tbl, good, b2, e2, B2, cs, t0, t30, p4⟩ := ahead_ok B1 l1 u1
  obtain ⟨v, b3, e3, B3, l3, u3⟩ := draw_ok B2 (many := 4) (by omega)
  obtain ⟨n, rfl⟩ : ∃ n : Nat, v = (n : Int) := ⟨v.toNat, by omega⟩
  obtain ⟨L0, hL0⟩ : ∃ L0, L0 = LDS.take n ++ [("net 2" : PySem.Str)] := ⟨_, rfl⟩
  have net_ck : ckW "net 2" = true ∧ lnOk "net 2" = true := ⟨by decide +kernel, by decide +kernel⟩
  have fl : (LDS.take n).length ≤ 3 := by rw [List.length_take]; exact Nat.min_le_right _ _
  have L0l : L0.length ≤ 4 := by rw [hL0, List.length_append, List.length_singleton]; omega
  obtain ⟨b4, E, x4, dc, lnE, lE, B4, e4⟩ := lb_loop (.klst (ns.map D.int)) (aD pre tbl good) pre b3 (L0.map D.str) none B3 (by rw [List.length_map]; omega) fun x hx => cs.ck x (List.mem_append_left _ hx)
  obtain ⟨v5, b5, e5, B5, l5, u5⟩ := draw_ok B4 (many := 900) (by omega)
  obtain ⟨b6, B6, e6⟩ := ends_ok B5
  obtain ⟨b7, B7, e7⟩ := parts_ok B6
  obtain ⟨L, hL⟩ : ∃ L, L = L0 ++ E := ⟨_, rfl⟩
  have Ll : L.length ≤ 12 := by rw [hL, List.length_append]; omega
  obtain ⟨c1, c2⟩ := ckW_ok net_ck.1
  have dL : Dc ((("net 2" : PySem.Str) :: pre).map wo) L := by
    rw [hL, hL0, List.append_assoc]
    exact (lds_dc n).app (.ln c1 c2 dc)
  have aL : ∀ y ∈ L, lnOk y = true := fun y hy => by
    rw [hL, hL0] at hy
    rcases List.mem_append.mp hy with hy | hy
    · rcases List.mem_append.mp hy with hy | hy
      · exact lds_ln n y hy
      · rw [List.mem_singleton.mp hy]; exact net_ck.2
    · exact lnE y hy
  have zz_ck : ckW "zz 1" = true ∧ lnOk "zz 1" = true := ⟨by decide +kernel, by decide +kernel⟩
  have dn_ck : lnOk "done" = true := by decide +kernel
  -- the wrong line
  obtain ⟨j, hj, hjt⟩ : ∃ j : Nat, (j : Int) = v5 % (tbl.length : Int) ∧ j < tbl.length := by
    have a := Int.emod_nonneg v5 (show (tbl.length : Int) ≠ 0 by omega)
    have b := Int.emod_lt_of_pos v5 (show (0 : Int) < (tbl.length : Int) by omega)
    exact ⟨(v5 % (tbl.length : Int)).toNat, by omega, by omega⟩
  obtain ⟨p, hp⟩ : ∃ p, tbl[j]? = some p := ⟨_, List.getElem?_eq_getElem hjt⟩
  have pm : p ∈ tbl := List.mem_of_getElem? hp
  have pc := cs.ck p.1 (List.mem_append_right _ (List.mem_cons_of_mem _ (List.mem_map_of_mem pm)))
  have gc := cs.ck good (List.mem_append_right _ List.mem_cons_self)
  have ps := List.all_eq_true.mp cs.st p pm
  have r1 : m__law_read [.str (PySem.Str.join (tx [10]) (L ++ [p.1, ("zz 1" : PySem.Str), ("done" : PySem.Str)]))] = .ok (.tup [.int ((L.length : Int) + 1), .str p.2]) := by
    refine read_wrong dL pc.1 (fun y hy => ?_) (by rw [List.length_append]; show L.length + 3 ≤ 1000; omega) fun f => ?_
    · rcases List.mem_append.mp hy with hy | hy
      · exact aL y hy
      · have h : y = p.1 ∨ y = "zz 1" ∨ y = "done" := by simpa using hy
        rcases h with rfl | rfl | rfl
        · exact pc.2
        · exact zz_ck.2
        · exact dn_ck
    · have := congrArg (·[j]?) (cs.bad f)
      simp only [List.getElem?_map, hp, Option.map_some, Option.some.injEq] at this
      rw [List.map_append] at this
      rw [List.length_map, List.length_cons]
      exact this
  have r2 : m__law_read [.str (PySem.Str.join (tx [10]) (L ++ [good, ("zz 1" : PySem.Str), ("done" : PySem.Str)]))] = .ok (.tup [.int ((L.length : Int) + 2), .str "unknown word"]) := by
    have dG : Dc ((("net 2" : PySem.Str) :: pre).map wo ++ [wo good]) (L ++ [good]) := dL.app (.ln (ckW_ok gc.1).1 (ckW_ok gc.1).2 .nil)
    have := read_wrong (R := [("done" : PySem.Str)]) (rs := "unknown word") dG zz_ck.1 (fun y hy => by
      have h : y ∈ L ∨ y = good ∨ y = "zz 1" ∨ y = "done" := by simpa using hy
      rcases h with h | rfl | rfl | rfl
      · exact aL y h
      · exact gc.2
      · exact zz_ck.2
      · exact dn_ck) (by rw [List.length_append, List.length_append]; show L.length + 1 + 2 ≤ 1000; omega) fun f => by
        have := cs.zz f
        rw [List.append_assoc]
        have e : [wo good] ++ [wo "zz 1"] = [good, ("zz 1" : PySem.Str)].map wo := rfl
        rw [e, ← List.map_append]
        rw [List.length_append, List.length_map, List.length_cons]
        exact this
    rw [List.append_assoc] at this
    rw [List.length_append] at this
    have e : (((L.length + [good].length : Nat) : Int) + 1) = (L.length : Int) + 2 := by
      show ((L.length + 1 : Nat) : Int) + 1 = _
      omega
    rw [e] at this
    exact this
  have n1 := ne_told ((L.length : Int) + 1) ps
  have n2 := ne_told ((L.length : Int) + 2) (x := "unknown word") (by decide +kernel)
  have g0 : atD [sL pre, tL tbl, .str good] 0 = .ok (sL pre) := atD_int (by omega) rfl
  have g1 : atD [sL pre, tL tbl, .str good] 1 = .ok (tL tbl) := atD_int (by omega) rfl
  have g2 : atD [sL pre, tL tbl, .str good] 2 = .ok (.str good) := atD_int (by omega) rfl
  have h0 : atD [D.str p.1, .str p.2] 0 = .ok (.str p.1) := atD_int (by omega) rfl
  have h1 : atD [D.str p.1, .str p.2] 1 = .ok (.str p.2) := atD_int (by omega) rfl
  have aa : asAny (sL pre) = .ok (pre.map D.str) := rfl
  have lt : lenD [tL tbl] = .ok (.int (tbl.length : Int)) := by
    unfold tL
    rw [lenD_lst, List.length_map]
  have md : modD (.int v5) (.int (tbl.length : Int)) = .ok (.int (j : Int)) := by
    show (if (0 : Int) < (tbl.length : Int) then Res.ok (D.int (v5 % (tbl.length : Int))) else .stuck) = _
    rw [if_pos (by omega), hj]
  have ix : ixD (tL tbl) (.int (j : Int)) = .ok (.lst [.str p.1, .str p.2]) := atD_nat (by rw [List.getElem?_map, hp]; rfl)
  have sl : slD (.lst [.str "", .str "# 2", .str " "]) none (some (n : Int)) = .ok (.lst ((LDS.take n).map D.str)) := by
    rw [slD_take, List.map_take]
    rfl
  have adl : addLL (.lst ((LDS.take n).map D.str)) (.lst [.str "net 2"]) = .ok (L0.map D.str) := by
    rw [hL0, List.map_append]
    show (if ((LDS.take n).map D.str).length + 1 ≤ sizeLine then Res.ok ((LDS.take n).map D.str ++ [D.str "net 2"]) else .stuck) = _
    rw [if_pos (Nat.le_trans (show _ ≤ 1000 by rw [List.length_map]; omega) (by decide))]
    rfl
  have em : L0.map D.str ++ E.map D.str = L.map D.str := by rw [hL, List.map_append]
  rw [em] at e4
  have ad : ∀ a b c : PySem.Str, addD (.lst (L.map D.str)) (.lst [.str a, .str b, .str c]) = .ok (.lst ((L ++ [a, b, c]).map D.str)) := fun a b c => by
    rw [List.map_append]
    show (if (L.map D.str).length + 3 ≤ sizeLine then Res.ok (D.lst (L.map D.str ++ [D.str a, D.str b, D.str c])) else .stuck) = _
    rw [if_pos (Nat.le_trans (show _ ≤ 1000 by rw [List.length_map]; omega) (by decide))]
    rfl
  have a1 := ad p.1 "zz 1" "done"
  have a2 := ad good "zz 1" "done"
  have jn : ∀ a : PySem.Str, lnOk a = true → sjoinD "\n" (.lst ((L ++ [a, ("zz 1" : PySem.Str), ("done" : PySem.Str)]).map D.str)) = .ok (.str (PySem.Str.join (tx [10]) (L ++ [a, ("zz 1" : PySem.Str), ("done" : PySem.Str)]))) := fun a ha => join_n (by
    have := sum_ln (L := L ++ [a, ("zz 1" : PySem.Str), ("done" : PySem.Str)]) fun y hy => by
      have h : y ∈ L ∨ y = a ∨ y = "zz 1" ∨ y = "done" := by simpa using hy
      rcases h with h | rfl | rfl | rfl
      · exact aL y h
      · exact ha
      · exact zz_ck.2
      · exact dn_ck
    have e : (L ++ [a, ("zz 1" : PySem.Str), ("done" : PySem.Str)]).length = L.length + 3 := by rw [List.length_append]; rfl
    omega)
  have j1 := jn p.1 pc.2
  have j2 := jn good gc.2
  have hlen : (L.map D.str).length = L.length := List.length_map _
  have z1 : 1 ≤ sizeLine := by decide
  have z2 : 2 ≤ sizeLine := by decide
  have z3 : 3 ≤ sizeLine := by decide
  have be : b_law = sSeq (sOwn 1 (oLst (aCons (eCall m__law_digits (aCons (eVar 0) (aCons (eC (.int (0))) (aCons (eC (.int (63))) (aNil))))) (aCons (eC (.int (0))) (aNil))))) (sSeq (sSet 2 (eCallB m__law_ahead 1 (aCons (eCallB m__law_draw 1 (aCons (eC (.int (6))) (aNil))) (aNil)))) (sSeq (sOwn 3 (oAdd (eSl (oE (oLst (aCons (eC (.str "")) (aCons (eC (.str "# 2")) (aCons (eC (.str " ")) (aNil)))))) (pNo) (pSo (eCallB m__law_draw 1 (aCons (eC (.int (4))) (aNil))))) (oE (oLst (aCons (eC (.str "net 2")) (aNil)))))) (sSeq (sFor (mLast (eIxV 2 (eC (.int (0)))) asAny) (gN 4) LB) LTL))) := rfl
  have mid : b_law [some (.dat (.klst (ns.map D.int))), none, none, none, none, none, none, none] = LTL (laE (.klst (ns.map D.int)) (aD pre tbl good) b4 (L.map D.str) x4) := by
    rw [be]
    unfold laE aD at e4 ⊢
    unfold aD at e2
    clear be ix md lt ad a1 a2 jn j1 j2 hlen r1 r2 n1 n2 h0 h1 em cs dc lnE dL aL
    generalize LTL = TT at *
    generalize LB = LB_ at *
    generalize D.str "" = C1 at *
    generalize D.str "# 2" = C2 at *
    generalize D.str " " = C3 at *
    generalize D.str "net 2" = C4 at *
    generalize (LDS.take n).map D.str = LT_ at *
    generalize L0.map D.str = LM0 at *
    generalize L.map D.str = LM at *
    generalize pre.map D.str = PM at *
    generalize sL pre = SP at *
    generalize tL tbl = TB_ at *
    generalize D.str good = GD at *
    generalize (n : Int) = N at *
    simp (decide := true) -implicitDefEqProofs [ed, e1, e2, e3, sl, adl, aa, g0, e4, z1, z2, z3, pSo]
  have tail : (LTL (laE (.klst (ns.map D.int)) (aD pre tbl good) b4 (L.map D.str) x4)).bind Fl.out = .ok (.bl true) := by
      clear be mid ad jn cs dc lnE dL aL e4 em
      unfold laE aD LTL
      generalize PySem.Str.join (tx [10]) (L ++ [p.1, ("zz 1" : PySem.Str), ("done" : PySem.Str)]) = JA at *
      generalize PySem.Str.join (tx [10]) (L ++ [good, ("zz 1" : PySem.Str), ("done" : PySem.Str)]) = JB at *
      generalize (L ++ [p.1, ("zz 1" : PySem.Str), ("done" : PySem.Str)]).map D.str = LA_ at *
      generalize (L ++ [good, ("zz 1" : PySem.Str), ("done" : PySem.Str)]).map D.str = LB_ at *
      generalize D.str "zz 1" = C1 at *
      generalize D.str "done" = C2 at *
      generalize D.str "unknown word" = C3 at *
      generalize D.str good = GD at *
      generalize D.str p.1 = P1_ at *
      generalize D.str p.2 = P2_ at *
      generalize L.map D.str = LM at *
      generalize sL pre = SP at *
      generalize tL tbl = TB_ at *
      generalize (tbl.length : Int) = TLN at *
      generalize (j : Int) = JJ at *
      simp (decide := true) -implicitDefEqProofs [e5, e6, e7, ix, md, lt, a1, a2, j1, j2, hlen, r1, r2, n1, n2, g0, g1, g2, h0, h1, z1, z2, z3]
  unfold m_law
  rw [runP_if, if_pos (show ([D.klst (ns.map D.int)] : List D).length = 1 from rfl)]
  show (b_law [some (.dat (.klst (ns.map D.int))), none, none, none, none, none, none, none]).bind Fl.out = _
  rw [mid]
  exact tail
end LAW


end

end
namespace LAW
open PySem PySem.Spec PyProof.Rows L2 ML
theorem tp [Tabs] {w : World} {K : PySem.W.Frag} {h h0 base : Heap} {mg : PySem.Str → Option Value} (X : K.In h) (G : h.Ns mainGlobals mg) (c : He.SaysX faD fnD tabD_ tfD chkD w h0 K) (B : ∀ p ∈ tfD, GxR.TabB base mg (He.cT K p).1 (He.cT K p).2 ∧ Tabs.T (He.cT K p).2) : Tp w K mg base where
  z_ValueError := He.free_ok X G (c.t.d.fact 26 (f := .free "ValueError") rfl)
  z_all := He.free_ok X G (c.t.d.fact 27 (f := .free "all") rfl)
  z_bool := He.free_ok X G (c.t.d.fact 28 (f := .free "bool") rfl)
  z_enumerate := He.free_ok X G (c.t.d.fact 29 (f := .free "enumerate") rfl)
  z_int := He.free_ok X G (c.t.d.fact 30 (f := .free "int") rfl)
  z_isinstance := He.free_ok X G (c.t.d.fact 31 (f := .free "isinstance") rfl)
  z_len := He.free_ok X G (c.t.d.fact 32 (f := .free "len") rfl)
  z_list := He.free_ok X G (c.t.d.fact 33 (f := .free "list") rfl)
  z_max := He.free_ok X G (c.t.d.fact 34 (f := .free "max") rfl)
  z_ord := He.free_ok X G (c.t.d.fact 35 (f := .free "ord") rfl)
  z_range := He.free_ok X G (c.t.d.fact 36 (f := .free "range") rfl)
  z_tuple := He.free_ok X G (c.t.d.fact 37 (f := .free "tuple") rfl)
  g_MOST_CHARACTERS := He.int_ok X G (c.t.d.fact 38 (f := .int "MOST_CHARACTERS" (60000)) rfl)
  g_MOST_DIGITS := He.int_ok X G (c.t.d.fact 39 (f := .int "MOST_DIGITS" (9)) rfl)
  g_MOST_INPUTS := He.int_ok X G (c.t.d.fact 40 (f := .int "MOST_INPUTS" (16)) rfl)
  g_MOST_KERNELS := He.int_ok X G (c.t.d.fact 41 (f := .int "MOST_KERNELS" (4)) rfl)
  g_MOST_LAYERS := He.int_ok X G (c.t.d.fact 42 (f := .int "MOST_LAYERS" (12)) rfl)
  g_MOST_LENGTH := He.int_ok X G (c.t.d.fact 43 (f := .int "MOST_LENGTH" (64)) rfl)
  g_MOST_ROWS := He.int_ok X G (c.t.d.fact 44 (f := .int "MOST_ROWS" (16)) rfl)
  g_MOST_SIGNAL := He.int_ok X G (c.t.d.fact 45 (f := .int "MOST_SIGNAL" (16777216)) rfl)
  g_MOST_STRIDE := He.int_ok X G (c.t.d.fact 46 (f := .int "MOST_STRIDE" (64)) rfl)
  g_MOST_WEIGHT := He.int_ok X G (c.t.d.fact 47 (f := .int "MOST_WEIGHT" (1048576)) rfl)
  g_PERCENT := He.int_ok X G (c.t.d.fact 48 (f := .int "PERCENT" (37)) rfl)
  g_KINDS := by
    have b := c.more; simp only [chkD, Bool.and_eq_true] at b
    exact tupC_ok X G b.1 rfl
  g_MEAN_SIZES := by
    have b := c.more; simp only [chkD, Bool.and_eq_true] at b
    exact tupC_ok X G b.2.1 rfl
  g_ROW_WORDS := by
    have b := c.more; simp only [chkD, Bool.and_eq_true] at b
    exact tabC_ok X G b.2.2.1 (c.t.tab 0 (t := ((fun K => He.ga K "ROW_WORDS"), ["dense", "conv"])) rfl) rfl
  h_ROW_WORDS := by
    have b := c.more; simp only [chkD, Bool.and_eq_true] at b
    exact tabN_ok X G b.2.2.1 (dic_of c.t 0 (t := ((fun K => He.ga K "ROW_WORDS"), ["dense", "conv"])) rfl)
  g_WORDS := by
    have b := c.more; simp only [chkD, Bool.and_eq_true] at b
    exact tabC_ok X G b.2.2.2.1 (c.t.tab 1 (t := ((fun K => He.ga K "WORDS"), ["net", "dense", "row", "conv", "kernel", "relu", "clamp", "max", "mean", "sum", "with", "fork", "end", "done"])) rfl) rfl
  h_WORDS := by
    have b := c.more; simp only [chkD, Bool.and_eq_true] at b
    exact tabN_ok X G b.2.2.2.1 (dic_of c.t 1 (t := ((fun K => He.ga K "WORDS"), ["net", "dense", "row", "conv", "kernel", "relu", "clamp", "max", "mean", "sum", "with", "fork", "end", "done"])) rfl)
  e_BadNet := by
    have b := c.more; simp only [chkD, Bool.and_eq_true] at b
    obtain ⟨fd, F⟩ := c.t.d.def_ 38 (d := d_init_BadNet) rfl
    exact ⟨_, _, fd, excC_ok X G b.2.2.2.2.1, F⟩
  t_0 := by
    have b := c.more; simp only [chkD, Bool.and_eq_true] at b
    exact ⟨_, _, tryC_ok X G b.2.2.2.2.2.1⟩
  c_Part := by
    have b := c.more; simp only [chkD, Bool.and_eq_true] at b
    obtain ⟨fd, F⟩ := c.t.d.def_ 39 (d := d_init_Part) rfl
    exact ⟨_, _, fd, clsC_ok X G b.2.2.2.2.2.2.1, F⟩
  c_Reader := by
    have b := c.more; simp only [chkD, Bool.and_eq_true] at b
    obtain ⟨fd, F⟩ := c.t.d.def_ 40 (d := d_init_Reader) rfl
    exact ⟨_, _, fd, clsC_ok X G b.2.2.2.2.2.2.2.1, F⟩
  f_Part_add_layer := by
    have b := c.more; simp only [chkD, Bool.and_eq_true] at b
    have H := clsC_ok X G b.2.2.2.2.2.2.1
    obtain ⟨fd, F⟩ := c.t.d.def_ 26 (d := d_Part_add_layer) rfl
    exact ⟨_, _, fd, F, H.at_, H.me "add_layer" (by simp)⟩
  f_Reader_read_line := by
    have b := c.more; simp only [chkD, Bool.and_eq_true] at b
    have H := clsC_ok X G b.2.2.2.2.2.2.2.1
    obtain ⟨fd, F⟩ := c.t.d.def_ 27 (d := d_Reader_read_line) rfl
    exact ⟨_, _, fd, F, H.at_, H.me "read_line" (by simp)⟩
  f_Reader_read_first := by
    have b := c.more; simp only [chkD, Bool.and_eq_true] at b
    have H := clsC_ok X G b.2.2.2.2.2.2.2.1
    obtain ⟨fd, F⟩ := c.t.d.def_ 28 (d := d_Reader_read_first) rfl
    exact ⟨_, _, fd, F, H.at_, H.me "read_first" (by simp)⟩
  f_Reader_is_own := by
    have b := c.more; simp only [chkD, Bool.and_eq_true] at b
    have H := clsC_ok X G b.2.2.2.2.2.2.2.1
    obtain ⟨fd, F⟩ := c.t.d.def_ 29 (d := d_Reader_is_own) rfl
    exact ⟨_, _, fd, F, H.at_, H.me "is_own" (by simp)⟩
  f_Reader_is_in_place := by
    have b := c.more; simp only [chkD, Bool.and_eq_true] at b
    have H := clsC_ok X G b.2.2.2.2.2.2.2.1
    obtain ⟨fd, F⟩ := c.t.d.def_ 30 (d := d_Reader_is_in_place) rfl
    exact ⟨_, _, fd, F, H.at_, H.me "is_in_place" (by simp)⟩
  f_Reader_is_full := by
    have b := c.more; simp only [chkD, Bool.and_eq_true] at b
    have H := clsC_ok X G b.2.2.2.2.2.2.2.1
    obtain ⟨fd, F⟩ := c.t.d.def_ 31 (d := d_Reader_is_full) rfl
    exact ⟨_, _, fd, F, H.at_, H.me "is_full" (by simp)⟩
  f_Reader_add_line := by
    have b := c.more; simp only [chkD, Bool.and_eq_true] at b
    have H := clsC_ok X G b.2.2.2.2.2.2.2.1
    obtain ⟨fd, F⟩ := c.t.d.def_ 32 (d := d_Reader_add_line) rfl
    exact ⟨_, _, fd, F, H.at_, H.me "add_line" (by simp)⟩
  f_Reader_add_row := by
    have b := c.more; simp only [chkD, Bool.and_eq_true] at b
    have H := clsC_ok X G b.2.2.2.2.2.2.2.1
    obtain ⟨fd, F⟩ := c.t.d.def_ 33 (d := d_Reader_add_row) rfl
    exact ⟨_, _, fd, F, H.at_, H.me "add_row" (by simp)⟩
  f_Reader_add_plain := by
    have b := c.more; simp only [chkD, Bool.and_eq_true] at b
    have H := clsC_ok X G b.2.2.2.2.2.2.2.1
    obtain ⟨fd, F⟩ := c.t.d.def_ 34 (d := d_Reader_add_plain) rfl
    exact ⟨_, _, fd, F, H.at_, H.me "add_plain" (by simp)⟩
  f_Reader_end_rows := by
    have b := c.more; simp only [chkD, Bool.and_eq_true] at b
    have H := clsC_ok X G b.2.2.2.2.2.2.2.1
    obtain ⟨fd, F⟩ := c.t.d.def_ 35 (d := d_Reader_end_rows) rfl
    exact ⟨_, _, fd, F, H.at_, H.me "end_rows" (by simp)⟩
  f_Reader_end_branches := by
    have b := c.more; simp only [chkD, Bool.and_eq_true] at b
    have H := clsC_ok X G b.2.2.2.2.2.2.2.1
    obtain ⟨fd, F⟩ := c.t.d.def_ 36 (d := d_Reader_end_branches) rfl
    exact ⟨_, _, fd, F, H.at_, H.me "end_branches" (by simp)⟩
  f_Reader_ended := by
    have b := c.more; simp only [chkD, Bool.and_eq_true] at b
    have H := clsC_ok X G b.2.2.2.2.2.2.2.1
    obtain ⟨fd, F⟩ := c.t.d.def_ 37 (d := d_Reader_ended) rfl
    exact ⟨_, _, fd, F, H.at_, H.me "ended" (by simp)⟩
  f_clamped := by
    obtain ⟨fd, F⟩ := c.t.d.def_ 0 (d := d_clamped) rfl
    exact ⟨_, fd, F, He.glo_ok X G (c.t.d.fact 0 (f := .glo "clamped") rfl)⟩
  f_within := by
    obtain ⟨fd, F⟩ := c.t.d.def_ 1 (d := d_within) rfl
    exact ⟨_, fd, F, He.glo_ok X G (c.t.d.fact 1 (f := .glo "within") rfl)⟩
  f_places := by
    obtain ⟨fd, F⟩ := c.t.d.def_ 2 (d := d_places) rfl
    exact ⟨_, fd, F, He.glo_ok X G (c.t.d.fact 2 (f := .glo "places") rfl)⟩
  f_gives := by
    obtain ⟨fd, F⟩ := c.t.d.def_ 3 (d := d_gives) rfl
    exact ⟨_, fd, F, He.glo_ok X G (c.t.d.fact 3 (f := .glo "gives") rfl)⟩
  f_last_length := by
    obtain ⟨fd, F⟩ := c.t.d.def_ 4 (d := d_last_length) rfl
    exact ⟨_, fd, F, He.glo_ok X G (c.t.d.fact 4 (f := .glo "last_length") rfl)⟩
  f_is_allowed := by
    obtain ⟨fd, F⟩ := c.t.d.def_ 5 (d := d_is_allowed) rfl
    exact ⟨_, fd, F, He.glo_ok X G (c.t.d.fact 5 (f := .glo "is_allowed") rfl)⟩
  f_words_of := by
    obtain ⟨fd, F⟩ := c.t.d.def_ 6 (d := d_words_of) rfl
    exact ⟨_, fd, F, He.glo_ok X G (c.t.d.fact 6 (f := .glo "words_of") rfl)⟩
  f_is_number := by
    obtain ⟨fd, F⟩ := c.t.d.def_ 7 (d := d_is_number) rfl
    exact ⟨_, fd, F, He.glo_ok X G (c.t.d.fact 7 (f := .glo "is_number") rfl)⟩
  f_is_count_right := by
    obtain ⟨fd, F⟩ := c.t.d.def_ 8 (d := d_is_count_right) rfl
    exact ⟨_, fd, F, He.glo_ok X G (c.t.d.fact 8 (f := .glo "is_count_right") rfl)⟩
  f_number_words := by
    obtain ⟨fd, F⟩ := c.t.d.def_ 9 (d := d_number_words) rfl
    exact ⟨_, fd, F, He.glo_ok X G (c.t.d.fact 9 (f := .glo "number_words") rfl)⟩
  f_is_in_range := by
    obtain ⟨fd, F⟩ := c.t.d.def_ 10 (d := d_is_in_range) rfl
    exact ⟨_, fd, F, He.glo_ok X G (c.t.d.fact 10 (f := .glo "is_in_range") rfl)⟩
  f_numbers_of := by
    obtain ⟨fd, F⟩ := c.t.d.def_ 11 (d := d_numbers_of) rfl
    exact ⟨_, fd, F, He.glo_ok X G (c.t.d.fact 11 (f := .glo "numbers_of") rfl)⟩
  f_parse := by
    obtain ⟨fd, F⟩ := c.t.d.def_ 12 (d := d_parse) rfl
    exact ⟨_, fd, F, He.glo_ok X G (c.t.d.fact 12 (f := .glo "parse") rfl), codT_of B (p := ("parse", none)) (by simp [tfD]) F⟩
  f__law_cell := by
    obtain ⟨fd, F⟩ := c.t.d.def_ 13 (d := d__law_cell) rfl
    exact ⟨_, fd, F, He.glo_ok X G (c.t.d.fact 13 (f := .glo "_law_cell") rfl)⟩
  f__law_digits := by
    obtain ⟨fd, F⟩ := c.t.d.def_ 14 (d := d__law_digits) rfl
    exact ⟨_, fd, F, He.glo_ok X G (c.t.d.fact 14 (f := .glo "_law_digits") rfl)⟩
  f__law_draw := by
    obtain ⟨fd, F⟩ := c.t.d.def_ 15 (d := d__law_draw) rfl
    exact ⟨_, fd, F, He.glo_ok X G (c.t.d.fact 15 (f := .glo "_law_draw") rfl)⟩
  f__law_read := by
    obtain ⟨fd, F⟩ := c.t.d.def_ 16 (d := d__law_read) rfl
    exact ⟨_, fd, F, He.glo_ok X G (c.t.d.fact 16 (f := .glo "_law_read") rfl)⟩
  f__law_places := by
    obtain ⟨fd, F⟩ := c.t.d.def_ 17 (d := d__law_places) rfl
    exact ⟨_, fd, F, He.glo_ok X G (c.t.d.fact 17 (f := .glo "_law_places") rfl)⟩
  f__law_counts := by
    obtain ⟨fd, F⟩ := c.t.d.def_ 18 (d := d__law_counts) rfl
    exact ⟨_, fd, F, He.glo_ok X G (c.t.d.fact 18 (f := .glo "_law_counts") rfl)⟩
  f__law_numbers := by
    obtain ⟨fd, F⟩ := c.t.d.def_ 19 (d := d__law_numbers) rfl
    exact ⟨_, fd, F, He.glo_ok X G (c.t.d.fact 19 (f := .glo "_law_numbers") rfl)⟩
  f__law_rows := by
    obtain ⟨fd, F⟩ := c.t.d.def_ 20 (d := d__law_rows) rfl
    exact ⟨_, fd, F, He.glo_ok X G (c.t.d.fact 20 (f := .glo "_law_rows") rfl)⟩
  f__law_kernels := by
    obtain ⟨fd, F⟩ := c.t.d.def_ 21 (d := d__law_kernels) rfl
    exact ⟨_, fd, F, He.glo_ok X G (c.t.d.fact 21 (f := .glo "_law_kernels") rfl)⟩
  f__law_ahead := by
    obtain ⟨fd, F⟩ := c.t.d.def_ 22 (d := d__law_ahead) rfl
    exact ⟨_, fd, F, He.glo_ok X G (c.t.d.fact 22 (f := .glo "_law_ahead") rfl)⟩
  f__law_ends := by
    obtain ⟨fd, F⟩ := c.t.d.def_ 23 (d := d__law_ends) rfl
    exact ⟨_, fd, F, He.glo_ok X G (c.t.d.fact 23 (f := .glo "_law_ends") rfl)⟩
  f__law_parts := by
    obtain ⟨fd, F⟩ := c.t.d.def_ 24 (d := d__law_parts) rfl
    exact ⟨_, fd, F, He.glo_ok X G (c.t.d.fact 24 (f := .glo "_law_parts") rfl)⟩
  f_law := by
    obtain ⟨fd, F⟩ := c.t.d.def_ 25 (d := d_law) rfl
    exact ⟨_, fd, F, He.glo_ok X G (c.t.d.fact 25 (f := .glo "law") rfl)⟩
theorem facts [Tabs] {P : Program} {w : World} {K : PySem.W.Frag} {h h0 : Heap} {mg : PySem.Str → Option Value} {f : Addr} (X : K.In h) (G : h.Ns mainGlobals mg) (hfa : mg ("law" : PySem.Str) = some (.ref f)) (c : He.SaysX faD fnD tabD_ tfD chkD w h0 K) :
    ∃ fd : FuncData, (∀ (s : Shared) (v : Value), BindsTo s fd ⟨[v], []⟩ [("script", v)]) ∧ ∀ base : Heap, K.In base → base.Ns mainGlobals mg → (∀ p ∈ tfD, GxR.TabB base mg (He.cT K p).1 (He.cT K p).2 ∧ Tabs.T (He.cT K p).2) → FnG P w K mg base 21 f fd ["script"] (spP K mg m_law) := by
  obtain ⟨fd, F⟩ := c.t.d.def_ 25 (d := d_law) rfl
  have e := hfa.symm.trans (He.glo_ok X G (c.t.d.fact 25 (f := .glo "law") rfl))
  cases e
  have b := FunD.bindsA (ps := ["script"]) F fun _ _ _ _ _ _ us hl => match us, hl with | [_], _ => rfl
  exact ⟨fd, fun s v => b s [v] rfl, fun base _ _ B => okDP F sc_law b_law (body_law (tp X G c B))⟩
end LAW
open PySem PySem.W PySem.Calls PyProof.Rows
set_option maxRecDepth 100000 in
set_option maxHeartbeats 0 in
theorem PySem.Challenge.cw_wholenet_k05_wrong_texts_refused_holds : PySem.Challenge.rw_wholenet_k05_wrong_texts_refused.Holds := by
  w_on; o_law
  refine HandSHeadRun.head_any (r := OpenLaw.row PySem.Challenge.rw_wholenet_k05_wrong_texts_refused) (q := view (OpenLaw.row PySem.Challenge.rw_wholenet_k05_wrong_texts_refused).prog [49]) (H := LAW.hk) (ob := LAW.ob) (M := 12000) (loose := LAW.looseN) (d := HandSHeadRun.topDef (OpenLaw.row PySem.Challenge.rw_wholenet_k05_wrong_texts_refused).prog 49) (kwd := []) LAW.ob_eq
    (by kernel_rfl) (fun s => by kernel_rfl) LAW.run (by kernel_rfl) (by kernel_rfl) (by kernel_rfl) (by rfl) (by first | assumption | decide +kernel) LAW.okH ⟨rfl, rfl, rfl, rfl, rfl, by decide +kernel⟩ ?hw ?hc
  case hw => w_witness2
  case hc =>
    refine ML.walkGT (l := PySem.Challenge.rw_wholenet_k05_wrong_texts_refused) (n := 63) (k := 21) (x := "script") rfl (by decide) (by kernel_rfl) ⟨rfl, by decide, by decide⟩ ?F
    intro w mg fa h Y G hmg0
    obtain ⟨K, KX, c⟩ := Y
    have hmg : mg ("law" : PySem.Str) = some (.ref fa) := by
      have e : (HandSHeadRun.topDef (OpenLaw.row PySem.Challenge.rw_wholenet_k05_wrong_texts_refused).prog 49).name = ("law" : PySem.Str) := by kernel_rfl
      rw [← e]
      exact hmg0
    letI TI : ML.Tabs := ⟨fun P => P ∈ (LAW.tfD.map (He.cT K)).map (·.2)⟩
    obtain ⟨fd, hb, hF⟩ := LAW.facts (P := (PySem.Challenge.rw_wholenet_k05_wrong_texts_refused).prog) (w := w) KX G hmg c
    refine ⟨K, fd, LAW.tfD.map (He.cT K), _, KX, fun p hp => ?_, fun p hp => ?_, fun p hp => ?_, hb, fun H a ns hl _ only sq => ML.sp_lawT (LAW.law_true ns hl) only (fun P hP => hP) sq, fun base hk hn hB => hF base hk hn fun p hp => ⟨hB _ (List.mem_map.mpr ⟨p, hp, rfl⟩), List.mem_map.mpr ⟨_, List.mem_map.mpr ⟨p, hp, rfl⟩, rfl⟩⟩⟩
    · obtain ⟨q, hq, rfl⟩ := List.mem_map.mp hp
      exact c.empty q hq
    · obtain ⟨q, hq, rfl⟩ := List.mem_map.mp hp
      exact c.out q hq
    · obtain ⟨q, hq, rfl⟩ := List.mem_map.mp hp
      exact PySem.W.codeHd_of_K KX (c.hd q hq)

