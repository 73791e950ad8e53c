import PyProof.Rows.All
import Wide.All
import OpenK.AllK
import Wide.FinOn
import HandS.ForMost
import HandS.Evl
import HandS.ExcInit
import HandS.Dict
import HandS.TupAny
import HandS.TupMul
import HandS.Zip
import HandS.Style
import PyProof.ReprLen
import HandS.GenYield
import PyProof.Draws
import KE.KExcInit
import KE.KExcIs
import HandS.IsInst
import HandS.Defaults
import HandS.Ends
import PyProof.EqKinds
import HandS.TupSets
import PyProof.TupleKey
import HandS.List
import HandS.Exc
import HandS.WordsExc
import HandS.Wide
import HandS.Deep
import HandS.ExcField
import HandS.ExcIs
import PyProof.ReprBulk
import HandS.SetBool
import PySem.Challenge.RW_losinglanes_k10_steps_back
set_option Elab.async false
set_option linter.all false
set_option maxRecDepth 100000
set_option maxHeartbeats 4000000
namespace Gd
open PySem PySem.Spec PyProof.Rows L2

/-- nothing is being shown around: no repr is on its way -/
def Free (A : Around) : Prop := A.guards = some []
theorem Free.deeper {A : Around} (g : Free A) (env : Env) : Free (A.deeper env) := g

/-- a def's promise where it is called from a place at which no repr is on its way -/
structure Fn (P : Program) (w : World) (K : PySem.W.Frag) (mg : Str → Option Value) (base : Heap) (k : Nat) (f : Addr) (fd : FuncData) (ps : List Str) (sp : Sp) : Prop where
  len : ∀ vs H Q E, sp vs H Q E → vs.length = ps.length
  run : ∀ (A : Around) (outer : List Env) (s : Shared) (H : Hp) (args : Args) (us : List Value) (vs : List V) (Q : VK) (E : XK),
    Free A → Room k A → Env0 P w K mg base A outer s H → BindsTo s fd args (ps.zip us) → Vals vs us → sp vs H Q E →
      codeAny (model P w) A (.call (.ref f) args) (CR CX0 outer P w H s Q E) s

section
variable {P : Program} {w : World} {K : PySem.W.Frag} {mg : Str → Option Value} {base : Heap} {k : Nat} {f : Addr} {fd : FuncData} {ps : List Str} {sp : Sp}
theorem Fn.of (F : FnOk P w K mg base CX0 k f fd ps sp) : Fn P w K mg base k f fd ps sp :=
  ⟨F.len, fun A outer s H args us vs Q E _ => F.run A outer s H args us vs Q E⟩

/-- a def of the text, by its body; the body is read where no repr is on its way -/
theorem ok {x qual : Str} {st : Stmt} {N : List Str} (F : Fun K x qual st f fd) (S : FnScope N ps (defScope st)) (len : ∀ vs H Q E, sp vs H Q E → vs.length = ps.length)
    (hbody : ∀ (cdv : Value) (A : Around) (outer : List Env) (s : Shared) (H : Hp) (vs : List V) (Q : VK) (E : XK),
      Free A → Room k (A.deeper (envOfC qual (defScope st) s.heap.objs.size f cdv)) → sp vs H Q E →
        ∃ t, PSs (cxOf CX0 P w K mg base N qual (defScope st) f cdv A outer s H E).nox (defBody st) t ∧
          t { nx := fun _ H' => Q .non H', rt := Q } (start N vs) H) : Fn P w K mg base (k + 1) f fd ps sp := by
  obtain ⟨oc, od, kV, doc, pm, an, cdv, ct, osl, rfl, lk, hcd⟩ := F.ex
  constructor
  · exact len
  intro A outer s H args us vs Q E hg hr e0 hb r hsp
  have hl := len _ _ _ _ hsp
  have keeps : ∀ b o, base.get? b = some o → s.heap.get? b = some o := fun b o e => (e0.bs b o e).1
  have KX := e0.mod.kin.keeps keeps
  have lim := e0.mod.nolimit.keeps keeps
  apply codeAny_call_function hr.depth (KX _ _ lk) rfl S.co S.gen rfl (PySem.W.codeRec_of KX hcd)
  apply hb
  apply wpAny_newFunctionEnv_cells S.kind
  · rintro ⟨n, v⟩ hy
    cases S.par n (List.of_mem_zip hy).1 with
    | inl q => exact .inl q
    | inr q => exact .inr ⟨q, PySem.W.cellsFrom_some _ _ _ (.inl q)⟩
  rintro env rfl s1 x
  refine ⟨lim.keeps x.toInCall.keep, ?_⟩
  apply codeAny_func
  obtain ⟨t, ht, hq⟩ := hbody cdv A outer s H vs Q E hg (hr.deeper _) hsp
  have I := inv_start (CX := CX0) (E := E) S hr.hd e0 hl r x
  apply wpAny_mono (ht.nox.run [] s1 (start N vs) H _ I hq)
  · intro fl s' hs
    cases fl with
    | ret u =>
      obtain ⟨v, σ', H', J, rv, q⟩ := hs
      exact ⟨v, H', J.os, J.bare, J.base, J.hok, rv, q⟩
    | next =>
      obtain ⟨σ', H', J, q⟩ := hs
      exact ⟨V.non, H', J.os, J.bare, J.base, J.hok, rfl, q⟩
    | brk => exact hs.elim fun _ h => h.elim fun _ h => h.2.elim
    | cont => exact hs.elim fun _ h => h.elim fun _ h => h.2.elim
  · exact fun e s' hs => hs
end

section
variable {X : Cx} {k : Nat} {f : Addr} {fd : FuncData} {ps : List Str} {sp : Sp} {x : Str} {p pos : Pos} {e : Expr} {es : List Expr} {t : TA}
/-- a call of such a def -/
theorem run {pins : List (Addr × Obj)} {σ : L2.St} {H : Hp} {s : Shared} {Q : VK} {us : List Value} {vs : List V} (F : Fn X.prog X.w X.K X.mg X.base k f fd ps sp) (hg : Free X.A) (hr : Room k X.A)
    (hb : L2.Binds X.K fd ps []) (I : Inv X pins σ H s) (r : Vals vs us) (h : sp vs H Q E0) : wpAny (model X.prog X.w) X.A (call (.ref f) us) (EP X pins σ Q) X.xe s := by
  have hl : (us ++ []).length = ps.length := by
    rw [List.append_nil, ← r.length]
    exact F.len _ _ _ _ h
  have bt := hb s us I.kIn hl
  rw [List.append_nil] at bt
  apply wpAny_call
  apply codeAny_mono (F.run X.A X.stack s H ⟨us, []⟩ us vs Q E0 hg hr I.env0 bt r h)
  intro r s' hq
  match r, hq with
  | .ok (.ret u), hq => exact I.after hq
  | .ok .next, hq => exact False.elim hq
  | .ok .brk, hq => exact False.elim hq
  | .ok .cont, hq => exact False.elim hq
  | .error e, hq => exact False.elim hq
def tGo (sp : Sp) (t : TA) : TE := fun σ H Q => t σ H fun vs H1 => sp vs H1 Q E0
theorem pe_go (F : Fn X.prog X.w X.K X.mg X.base k f fd ps sp) (hfree : Free X.A) (hr : Room k X.A) (hg : Gl X x) (hm : X.mg x = some (.ref f)) (hk : PySem.W.keepIn X.K (.ref f) = true) (hb : L2.Binds X.K fd ps [])
    (ha : PA X (e :: es) t) (hdb : (x == ("__debug__" : Str)) = false := by decide) (he : starEach (e :: es) X.env = (false, eval e X.env) :: starEach es X.env := by rfl)
    (hpl : (backTo pos (starEach es X.env)).any (·.1) = false := by rfl) : PE X (.Call (.Name x p) (e :: es) [] pos) (tGo sp t) := by
  constructor
  intro pins s σ H Q I h
  apply wpAny_Call_Name_kw (ld_glob I hg hm _ hdb)
  apply PySem.W.callWith_K (h₀ := X.base) I.ok.mod.kin hk _ he hpl
  apply thn (ha.run pos pins s σ H _ I h)
  rintro us s1 ⟨vs, H1, I1, r, q⟩
  exact ⟨I1.kIn, run F hfree hr hb I1 r q⟩
theorem pe_go0 (F : Fn X.prog X.w X.K X.mg X.base k f fd ps sp) (hfree : Free X.A) (hr : Room k X.A) (hg : Gl X x) (hm : X.mg x = some (.ref f)) (hk : PySem.W.keepIn X.K (.ref f) = true) (hb : L2.Binds X.K fd ps [])
    (hdb : (x == ("__debug__" : Str)) = false := by decide) : PE X (.Call (.Name x p) [] [] pos) (tGo sp tNil) := by
  constructor
  intro pins s σ H Q I h
  apply wpAny_Call_Name_kw (ld_glob I hg hm _ hdb)
  exact PySem.W.callWith_K0 I.kIn hk (run (us := []) F hfree hr hb I .nil h)

/-! ### repr of data -/
def rRepr (K : PySem.W.Frag) : List V → Hp → VK → Prop := fun xs H Q => ∃ (x : V) (d : PyData), xs = [x] ∧ Dp K H x d ∧ d.showable = true ∧ d.hasDict = false ∧ d.depth ≤ 40 ∧ d.shown.length ≤ sizeLine ∧
  Q (.str d.shown) H
theorem call_repr (hfree : Free X.A) (hr : Room k X.A) : CallR X (.builtin "repr") (rRepr X.K) := by
  intro pins s σ H xs us Q I r h
  obtain ⟨x, d, rfl, hd, hs, hn, hde, hz, q⟩ := h
  have hu := hr.units
  cases r with
  | cons rx rn =>
    cases rn
    rename_i u
    obtain ⟨as, rd⟩ := Dp.reads I d x u hd rx
    have fin : ∀ (a : Addr), u = .ref a → wpAny (model X.prog X.w) X.A (call (.builtin "repr") [u]) (EP X pins σ Q) X.xe s := by
      rintro a rfl
      apply repr_of_reads' rd hs (PyData.noDict_hsm hn) hfree (by omega) (fun _ _ e => e) _ hz
      intro h' u tk hk
      exact ⟨.str _, H, I.kept hk, ⟨_, rfl⟩, q⟩
    cases hd with
    | non =>
      cases rx
      exact P.repr_of_none ⟨.str _, H, I.tok _, ⟨_, rfl⟩, q⟩
    | bl b =>
      cases rx
      exact P.repr_of_bool ⟨.str _, H, I.tok _, ⟨_, rfl⟩, q⟩
    | int i =>
      obtain ⟨tk, rfl⟩ := rx
      have hi : i.natAbs.log2 < 1920 := of_decide_eq_true (by simpa [PyData.showable] using hs)
      exact P.repr_of_int hi ⟨.str _, H, I.tok _, ⟨_, rfl⟩, q⟩
    | str y =>
      obtain ⟨tk, rfl⟩ := rx
      exact P.repr_of_str ⟨.str _, H, I.tok _, ⟨_, rfl⟩, q⟩ hz
    | lst => exact fin _ rx
    | tup => exact fin _ rx
end
end Gd

set_option maxRecDepth 100000
set_option maxHeartbeats 4000000
namespace Dl
open PySem PySem.Spec PyProof.Rows L2 Gd
open Evl (Ex Ex.refl Ex.trans Ex.new ex_l ex_t sq_of st_of fresh_back)

/-! ### data of one's own: besides what the hand layer knows an empty dict, and errors that are kept as values -/
/-- an error of the class at C, its fields named fs, their values ds, written as data -/
def errD (C : Addr) (fs : List Str) (ds : List PyData) : PyData := .dict [(.int (C : Nat), .list (fs.map .str)), (.none, .list ds)]
mutual
inductive Da (K : PySem.W.Frag) (H : Hp) : V → PyData → Prop
  | non : Da K H .non .none
  | bl (q : Bool) : Da K H (.bl q) (.bool q)
  | int (q : Int) : Da K H (.int q) (.int q)
  | str (q : Str) : Da K H (.str q) (.str q)
  | lst {a : Addr} {vs : List V} {rows : List PyData} (s : SqL K H a vs) (m : DaAll K H vs rows) : Da K H (.ref a) (.list rows)
  | tup {a : Addr} {vs : List V} {rows : List PyData} (s : SqT K H a vs) (m : DaAll K H vs rows) : Da K H (.ref a) (.tuple rows)
  | emp {a : Addr} (s : H a = some (.dK [])) : Da K H (.ref a) (.dict [])
  | er0 {a C : Addr} (s : H a = some (exo a C none)) : Da K H (.ref a) (.dict [(.int (C : Nat), .list (([] : List Str).map .str)), (.none, .list [])])
  | err {a C dx : Addr} {fs : List Str} {vs : List V} {rows : List PyData} (s : H a = some (exo a C (some dx))) (t : H dx = some (exd dx (fs.zip vs))) (l : fs.length = vs.length) (m : DaAll K H vs rows) :
      Da K H (.ref a) (.dict [(.int (C : Nat), .list (fs.map .str)), (.none, .list rows)])
inductive DaAll (K : PySem.W.Frag) (H : Hp) : List V → List PyData → Prop
  | nil : DaAll K H [] []
  | cons {v : V} {vs : List V} {d : PyData} {rows : List PyData} (h : Da K H v d) (t : DaAll K H vs rows) : DaAll K H (v :: vs) (d :: rows)
end
section
variable {K : PySem.W.Frag} {H0 H1 : Hp}
mutual
theorem dp_ex (e : Ex H0 H1) {d : PyData} {v : V} : Da K H0 v d → Da K H1 v d
  | .non => .non
  | .bl _ => .bl _
  | .int _ => .int _
  | .str _ => .str _
  | .lst s m => .lst (ex_l e s) (dps_ex e m)
  | .tup s m => .tup (ex_t e s) (dps_ex e m)
  | .emp s => .emp (e _ _ s)
  | .er0 s => .er0 (e _ _ s)
  | .err s t l m => .err (e _ _ s) (e _ _ t) l (dps_ex e m)
theorem dps_ex (e : Ex H0 H1) {ds : List PyData} {vs : List V} : DaAll K H0 vs ds → DaAll K H1 vs ds
  | .nil => .nil
  | .cons h t => .cons (dp_ex e h) (dps_ex e t)
end
/-! where no dict stands in it, it is the hand layer's -/
mutual
theorem da_plain {H : Hp} {d : PyData} {v : V} : Da K H v d → d.hasDict = false → L2.Dp K H v d
  | .non, _ => .non
  | .bl _, _ => .bl _
  | .int _, _ => .int _
  | .str _, _ => .str _
  | .lst s m, h => .lst s (das_plain m (by simpa [PyData.hasDict] using h))
  | .tup s m, h => .tup s (das_plain m (by simpa [PyData.hasDict] using h))
  | .emp _, h => by simp [PyData.hasDict] at h
  | .er0 _, h => by simp [PyData.hasDict] at h
  | .err _ _ _ _, h => by simp [PyData.hasDict] at h
theorem das_plain {H : Hp} {ds : List PyData} {vs : List V} : DaAll K H vs ds → PyData.hasDictAll ds = false → L2.DpAll K H vs ds
  | .nil, _ => .nil
  | .cons h t, q => by
    simp only [PyData.hasDictAll, Bool.or_eq_false_iff] at q
    exact .cons (da_plain h q.1) (das_plain t q.2)
end
mutual
theorem noDict_lay : ∀ d : PyData, d.canLay0 = true → d.hasDict = false
  | .none, _ => rfl
  | .bool _, _ => rfl
  | .int _, _ => rfl
  | .str _, _ => rfl
  | .list ds, h => by
    simp only [PyData.hasDict]
    exact noDict_layAll ds (by simpa [PyData.canLay0] using h)
  | .tuple ds, h => by
    simp only [PyData.hasDict]
    exact noDict_layAll ds (by simpa [PyData.canLay0] using h)
  | .dict _, h => by simp [PyData.canLay0] at h
theorem noDict_layAll : ∀ ds : List PyData, PyData.canLayAll0 ds = true → PyData.hasDictAll ds = false
  | [], _ => rfl
  | d :: ds, h => by
    simp only [PyData.canLayAll0, Bool.and_eq_true] at h
    simp only [PyData.hasDictAll, Bool.or_eq_false_iff]
    exact ⟨noDict_lay d h.1, noDict_layAll ds h.2⟩
end
theorem noDict_shaped {d : PyData} (h : SeqAt.shaped d = true) : d.hasDict = false := by
  unfold SeqAt.shaped at h
  rw [Bool.and_eq_true] at h
  exact noDict_lay d h.1
theorem da_shaped {H : Hp} {d : PyData} {v : V} (k : Da K H v d) (h : SeqAt.shaped d = true) : L2.Dp K H v d := da_plain k (noDict_shaped h)
end
end Dl

set_option maxRecDepth 100000
set_option maxHeartbeats 4000000
namespace Dl
open PySem PySem.Spec PyProof.Rows L2 Gd
open Evl (Ex Ex.refl Ex.trans Ex.new ex_l ex_t sq_of st_of fresh_back)

/-! ### the pen: a list that a law changes by itself; all else that is read stays -/
structure Pn where
  p : Addr
  g : Addr
  ns : List Int
structure PenAt (K : PySem.W.Frag) (H : Hp) (q : Pn) : Prop where
  cells : ∃ seat left : Int, H q.p = some (.lst [.ref q.g, .int seat, .int left])
  given : SqL K H q.g (q.ns.map V.int)
  ne : q.g ≠ q.p
  few : q.ns.length ≤ 63
theorem PenAt.some {K : PySem.W.Frag} {H : Hp} {q : Pn} (h : PenAt K H q) : H q.p ≠ none := by
  obtain ⟨_, _, e⟩ := h.cells
  rw [e]
  exact fun z => by cases z
theorem PenAt.ex {K : PySem.W.Frag} {H H' : Hp} {q : Pn} (h : PenAt K H q) (e : Ex H H') : PenAt K H' q := by
  obtain ⟨a, b, h1⟩ := h.cells
  exact ⟨⟨a, b, e _ _ h1⟩, ex_l e h.given, h.ne, h.few⟩

/-- all but the pen stays -/
def Off (π : Option Pn) (H1 H2 : Hp) : Prop := ∀ a o, (∀ q, π = some q → a ≠ q.p) → H1 a = some o → H2 a = some o
theorem Off.of {π : Option Pn} {H1 H2 : Hp} (e : Ex H1 H2) : Off π H1 H2 := fun a o _ h => e a o h
theorem Off.trans {π : Option Pn} {H1 H2 H3 : Hp} (a : Off π H1 H2) (b : Off π H2 H3) : Off π H1 H3 := fun x o n h => b x o n (a x o n h)

/-- the core H0 of what is known, the heap H1 -/
structure Okk (K : PySem.W.Frag) (π : Option Pn) (H0 H1 : Hp) : Prop where
  ex : Ex H0 H1
  pen : ∀ q, π = some q → H0 q.p = none ∧ PenAt K H1 q
/-- the core grows by new objects alone -/
structure Stp (K : PySem.W.Frag) (π : Option Pn) (H0 H1 H0' H2 : Hp) : Prop where
  ex : Ex H0 H0'
  gr : ∀ a, H0' a ≠ none → H0 a ≠ none ∨ H1 a = none
  ex2 : Ex H0' H2
  off : Off π H1 H2
  pen : ∀ q, π = some q → PenAt K H2 q

section
variable {K : PySem.W.Frag} {π : Option Pn} {H0 H1 H2 H3 H0' H0'' : Hp}
theorem Okk.refl (h : π = none) : Okk K π H1 H1 := ⟨Ex.refl _, fun p e => by rw [h] at e; cases e⟩
theorem Okk.stp (o : Okk K π H0 H1) : Stp K π H0 H1 H0 H1 := ⟨Ex.refl _, fun a h => .inl h, o.ex, fun _ _ _ h => h, fun p e => (o.pen p e).2⟩
theorem Stp.okk (s : Stp K π H0 H1 H0' H2) (o : Okk K π H0 H1) : Okk K π H0' H2 := by
  refine ⟨s.ex2, fun q e => ⟨?_, s.pen q e⟩⟩
  obtain ⟨h1, h2⟩ := o.pen q e
  apply Classical.byContradiction
  intro hn
  rcases s.gr q.p hn with z | z
  · exact z h1
  · exact h2.some z
/-- an address of the heap that is no part of the core is none of it later -/
theorem Stp.out (s : Stp K π H0 H1 H0' H2) {a : Addr} (h0 : H0 a = none) (h1 : H1 a ≠ none) : H0' a = none := by
  apply Classical.byContradiction
  intro hn
  rcases s.gr a hn with z | z
  · exact z h0
  · exact h1 z
theorem Stp.trans (a : Stp K π H0 H1 H0' H2) (b : Stp K π H0' H2 H0'' H3) (o : Okk K π H0 H1) : Stp K π H0 H1 H0'' H3 := by
  refine ⟨a.ex.trans b.ex, fun x h => ?_, b.ex2, a.off.trans b.off, b.pen⟩
  rcases b.gr x h with z | z
  · exact a.gr x z
  · cases e : H1 x with
    | none => exact .inr rfl
    | some ob =>
      by_cases hp : ∃ q, π = some q ∧ x = q.p
      · obtain ⟨q, hq, rfl⟩ := hp
        exact absurd z (a.pen q hq).some
      · rw [a.off x ob (fun q hq ex => hp ⟨q, hq, ex⟩) e] at z
        cases z
/-- a new object joins the core -/
theorem Okk.new (o : Okk K π H0 H1) {p : Addr} {ob : HO} (hp : H1 p = none) (e : Ex H1 H2) (h2 : H2 p = some ob) : Stp K π H0 H1 (upd H0 p ob) H2 := by
  have h0 : H0 p = none := fresh_back o.ex hp
  refine ⟨Ex.new h0, fun a ha => ?_, fun a u ha => ?_, Off.of e, fun q hq => (o.pen q hq).2.ex e⟩
  · by_cases ea : a = p
    · subst ea
      exact .inr hp
    · rw [upd_ne ea] at ha
      exact .inl ha
  · by_cases ea : a = p
    · subst ea
      rw [upd_same] at ha
      cases ha
      exact h2
    · rw [upd_ne ea] at ha
      exact e _ _ (o.ex _ _ ha)
theorem Okk.more (o : Okk K π H0 H1) (e : Ex H1 H2) : Stp K π H0 H1 H0 H2 :=
  ⟨Ex.refl _, fun a h => .inl h, o.ex.trans e, Off.of e, fun p q => (o.pen p q).2.ex e⟩

/-! ### what a reading evaluates to, as data -/
abbrev DP := PyData → Prop
def PostV (K : PySem.W.Frag) (π : Option Pn) (H0 H1 : Hp) (Φ : DP) (Q : VK) : Prop := ∀ v d H0' H2, Φ d → Stp K π H0 H1 H0' H2 → Da K H0' v d → Q v H2
def EvD (K : PySem.W.Frag) (π : Option Pn) (te : TE) (σ : L2.St) (H0 : Hp) (Φ : DP) : Prop := ∀ H1, Okk K π H0 H1 → ∀ Q, PostV K π H0 H1 Φ Q → te σ H1 Q
def EvB (K : PySem.W.Frag) (π : Option Pn) (tt : TT) (σ : L2.St) (H0 : Hp) (Φ : Bool → Prop) : Prop := ∀ H1, Okk K π H0 H1 → ∀ Q : Bool → Hp → Prop, (∀ b H0' H2, Φ b → Stp K π H0 H1 H0' H2 → Q b H2) → tt σ H1 Q
def EvL (K : PySem.W.Frag) (π : Option Pn) (ta : TA) (σ : L2.St) (H0 : Hp) (Φ : List PyData → Prop) : Prop :=
  ∀ H1, Okk K π H0 H1 → ∀ Q : List V → Hp → Prop, (∀ vs ds H0' H2, Φ ds → Stp K π H0 H1 H0' H2 → DaAll K H0' vs ds → Q vs H2) → ta σ H1 Q
def EvO (K : PySem.W.Frag) (π : Option Pn) (to : TO) (σ : L2.St) (H0 : Hp) (o : Option Int) : Prop :=
  ∀ H1, Okk K π H0 H1 → ∀ Q : Option Int → Hp → Prop, (∀ H0' H2, Stp K π H0 H1 H0' H2 → Q o H2) → to σ H1 Q

/-- two cores of one heap joined -/
def joined (H H' : Hp) : Hp := fun a => match H a with
  | some o => some o
  | none => H' a
theorem joined_l (a : Ex H0 H2) : Ex H0 (joined H0 H0') := fun x o h => by
  unfold joined
  rw [h]
theorem joined_r (a : Ex H0 H2) (b : Ex H0' H2) : Ex H0' (joined H0 H0') := fun x o h => by
  unfold joined
  cases e : H0 x with
  | none => exact h
  | some u =>
    have e1 := a _ _ e
    rw [b _ _ h] at e1
    exact e1.symm
theorem joined_ex (a : Ex H0 H2) (b : Ex H0' H2) : Ex (joined H0 H0') H2 := fun x o h => by
  unfold joined at h
  cases e : H0 x with
  | none =>
    rw [e] at h
    exact b _ _ h
  | some u =>
    rw [e] at h
    exact a _ _ (e.trans h)
theorem okk_less (e : Ex H0 H0') (o : Okk K π H0' H1) : Okk K π H0 H1 := ⟨e.trans o.ex, fun p h => ⟨by
  obtain ⟨h1, _⟩ := o.pen p h
  exact fresh_back e h1, (o.pen p h).2⟩⟩
/-- what was done from a smaller core is done from a greater one -/
theorem stp_more (e : Ex H0 H0') (o : Okk K π H0' H1) (s : Stp K π H0 H1 H0'' H2) : ∃ N, Ex H0'' N ∧ Stp K π H0' H1 N H2 := by
  have e' : Ex H0' H2 := fun x u h => s.off x u (fun q hq ex => by
    subst ex
    rw [(o.pen q hq).1] at h
    cases h) (o.ex _ _ h)
  refine ⟨joined H0' H0'', joined_r e' s.ex2, joined_l e', fun a ha => ?_, joined_ex e' s.ex2, s.off, s.pen⟩
  unfold joined at ha
  cases q : H0' a with
  | some u => exact .inl (fun z => by cases z)
  | none =>
    rw [q] at ha
    rcases s.gr a ha with z | z
    · cases q0 : H0 a with
      | none => exact absurd q0 z
      | some u =>
        rw [e _ _ q0] at q
        cases q
    · exact .inr z
end

section
variable {K : PySem.W.Frag} {π : Option Pn} {σ : L2.St} {H0 H0' H1 : Hp} {ta tb te : TE} {tt tu : TT} {tl : TA} {Φ Ψ : DP} {i : Nat}
theorem EvD.mono (e : Ex H0 H0') (h : EvD K π te σ H0 Φ) : EvD K π te σ H0' Φ := fun H1 o Q q => h H1 (okk_less e o) Q fun v d N H2 hd s hv => by
  obtain ⟨M, hM, s'⟩ := stp_more e o s
  exact q v d M H2 hd s' (dp_ex hM hv)
theorem EvB.mono {Φ : Bool → Prop} (e : Ex H0 H0') (h : EvB K π tt σ H0 Φ) : EvB K π tt σ H0' Φ := fun H1 o Q q => h H1 (okk_less e o) Q fun b N H2 hd s => by
  obtain ⟨M, hM, s'⟩ := stp_more e o s
  exact q b M H2 hd s'
theorem EvL.mono {Φ : List PyData → Prop} (e : Ex H0 H0') (h : EvL K π tl σ H0 Φ) : EvL K π tl σ H0' Φ := fun H1 o Q q => h H1 (okk_less e o) Q fun v d N H2 hd s hv => by
  obtain ⟨M, hM, s'⟩ := stp_more e o s
  exact q v d M H2 hd s' (dps_ex hM hv)
theorem EvO.mono {to : TO} {x : Option Int} (e : Ex H0 H0') (h : EvO K π to σ H0 x) : EvO K π to σ H0' x := fun H1 o Q q => h H1 (okk_less e o) Q fun N H2 s => by
  obtain ⟨M, hM, s'⟩ := stp_more e o s
  exact q M H2 s'
theorem EvD.imp (h : EvD K π te σ H0 Φ) (k : ∀ d, Φ d → Ψ d) : EvD K π te σ H0 Ψ := fun H1 o Q q => h H1 o Q fun v d N H2 hd => q v d N H2 (k d hd)
theorem EvB.imp {Φ Ψ : Bool → Prop} (h : EvB K π tt σ H0 Φ) (k : ∀ d, Φ d → Ψ d) : EvB K π tt σ H0 Ψ := fun H1 o Q q => h H1 o Q fun b N H2 hd => q b N H2 (k b hd)
theorem EvL.imp {Φ Ψ : List PyData → Prop} (h : EvL K π tl σ H0 Φ) (k : ∀ d, Φ d → Ψ d) : EvL K π tl σ H0 Ψ := fun H1 o Q q => h H1 o Q fun v d N H2 hd => q v d N H2 (k d hd)

theorem ed_var {v : V} {d : PyData} (h : σ[i]? = some (some v)) (hd : Da K H0 v d) : EvD K π (tVar i) σ H0 (· = d) := fun H1 o Q q => ⟨v, h, q v d H0 H1 rfl o.stp hd⟩
theorem ed_c {v : V} {d : PyData} (hd : Da K H0 v d) : EvD K π (tC v) σ H0 (· = d) := fun H1 o Q q => q v d H0 H1 rfl o.stp hd
theorem ed_i {i : Int} : EvD K π (tC (.int i)) σ H0 (· = .int i) := ed_c (.int i)
theorem ed_s {z : Str} : EvD K π (tC (.str z)) σ H0 (· = .str z) := ed_c (.str z)
theorem ed_n : EvD K π (tC .non) σ H0 (· = .none) := ed_c .non
theorem ed_bl {b : Bool} : EvD K π (tC (.bl b)) σ H0 (· = .bool b) := ed_c (.bl b)

/-- an operation by data -/
def OpD (K : PySem.W.Frag) (π : Option Pn) (r : R2) (a b : PyData) (Φ : DP) : Prop := ∀ x y H0 H1, Da K H0 x a → Da K H0 y b → Okk K π H0 H1 → ∀ Q, PostV K π H0 H1 Φ Q → r x y H1 Q
theorem ed_op {r : R2} {Φa Φb : DP} (ha : EvD K π ta σ H0 Φa) (hb : EvD K π tb σ H0 Φb) (hr : ∀ a b, Φa a → Φb b → OpD K π r a b Φ) : EvD K π (tOp r ta tb) σ H0 Φ := fun H1 o Q q =>
  ha H1 o _ fun x a N H2 pa s1 ka => hb.mono s1.ex H2 (s1.okk o) _ fun y b N2 H3 pb s2 kb =>
    hr a b pa pb x y N2 H3 (dp_ex s2.ex ka) kb (s2.okk (s1.okk o)) Q fun v d N3 H4 hd s3 hv => q v d N3 H4 hd ((s1.trans s2 o).trans s3 o) hv
theorem ed_op' {r : R2} {a b : PyData} (ha : EvD K π ta σ H0 (· = a)) (hb : EvD K π tb σ H0 (· = b)) (hr : OpD K π r a b Φ) : EvD K π (tOp r ta tb) σ H0 Φ :=
  ed_op ha hb fun _ _ e1 e2 => by rw [e1, e2]; exact hr
theorem dp_int {x : V} {i : Int} (h : Da K H0 x (.int i)) : x = .int i := by cases h; rfl
theorem dp_bl {x : V} {i : Bool} (h : Da K H0 x (.bool i)) : x = .bl i := by cases h; rfl
theorem dp_str {x : V} {i : Str} (h : Da K H0 x (.str i)) : x = .str i := by cases h; rfl
theorem dp_non {x : V} (h : Da K H0 x .none) : x = .non := by cases h; rfl
/-- an operation that hands back a scalar and changes nothing -/
theorem opd_val {r : R2} {a b d : PyData} {v : V} (hv : ∀ H, Da K H v d) (h : ∀ x y H1 Q, Da K H1 x a → Da K H1 y b → Q v H1 → r x y H1 Q) : OpD K π r a b (· = d) := fun x y H0 H1 hx hy o Q q =>
  h x y H1 Q (dp_ex o.ex hx) (dp_ex o.ex hy) (q v d H0 H1 rfl o.stp (hv H0))
theorem od_I0 {g : Int → Int → V} {i j : Int} {d : PyData} (hv : ∀ H, Da K H (g i j) d) : OpD K π (rI0 g) (.int i) (.int j) (· = d) :=
  opd_val hv fun x y H Q hx hy q => ⟨i, j, dp_int hx, dp_int hy, q⟩
theorem od_I {C : Int → Int → Prop} {g : Int → Int → V} {i j : Int} {d : PyData} (hc : C i j) (hv : ∀ H, Da K H (g i j) d) : OpD K π (rI C g) (.int i) (.int j) (· = d) :=
  opd_val hv fun x y H Q hx hy q => ⟨i, j, dp_int hx, dp_int hy, hc, q⟩
theorem od_add {i j : Int} : OpD K π (rI0 fun i j => .int (i + j)) (.int i) (.int j) (· = .int (i + j)) := od_I0 fun _ => .int _
theorem od_sub {i j : Int} : OpD K π (rI0 fun i j => .int (i - j)) (.int i) (.int j) (· = .int (i - j)) := od_I0 fun _ => .int _
theorem od_mul {i j : Int} (h : CMul i j) : OpD K π (rI CMul fun i j => .int (i * j)) (.int i) (.int j) (· = .int (i * j)) := od_I h fun _ => .int _
theorem od_lt {i j : Int} : OpD K π (rI0 fun i j => .bl (decide (i < j))) (.int i) (.int j) (· = .bool (decide (i < j))) := od_I0 fun _ => .bl _
theorem od_le {i j : Int} : OpD K π (rI0 fun i j => .bl (decide (i ≤ j))) (.int i) (.int j) (· = .bool (decide (i ≤ j))) := od_I0 fun _ => .bl _
theorem od_gt {i j : Int} : OpD K π (rI0 fun i j => .bl (decide (j < i))) (.int i) (.int j) (· = .bool (decide (j < i))) := od_I0 fun _ => .bl _
theorem od_ge {i j : Int} : OpD K π (rI0 fun i j => .bl (decide (j ≤ i))) (.int i) (.int j) (· = .bool (decide (j ≤ i))) := od_I0 fun _ => .bl _
/-- texts compared -/
theorem od_neS {a b : Str} : OpD K π rNe (.str a) (.str b) (· = .bool (!decide (a = b))) := opd_val (v := .bl (!decide (a = b))) (fun _ => .bl _) fun x y H Q hx hy q => by
  rw [dp_str hx, dp_str hy]
  have e : (!decide (V.str a = V.str b)) = (!decide (a = b)) := by
    by_cases h : a = b
    · subst h; simp
    · simp [h]
  exact ⟨rfl, by rw [e]; exact q⟩
theorem od_eqS {a b : Str} : OpD K π rEq (.str a) (.str b) (· = .bool (decide (a = b))) := opd_val (v := .bl (decide (a = b))) (fun _ => .bl _) fun x y H Q hx hy q => by
  rw [dp_str hx, dp_str hy]
  have e : (decide (V.str a = V.str b)) = (decide (a = b)) := by
    by_cases h : a = b
    · subst h; simp
    · simp [h]
  exact ⟨rfl, by rw [e]; exact q⟩
theorem od_eqI {a b : Int} : OpD K π rEq (.int a) (.int b) (· = .bool (decide (a = b))) := opd_val (v := .bl (decide (a = b))) (fun _ => .bl _) fun x y H Q hx hy q => by
  rw [dp_int hx, dp_int hy]
  have e : (decide (V.int a = V.int b)) = (decide (a = b)) := by
    by_cases h : a = b
    · subst h; simp
    · simp [h]
  exact ⟨rfl, by rw [e]; exact q⟩
/-- data compared at any depth -/
theorem od_eqD {a b : PyData} (ha : SeqAt.shaped a = true) (hb : SeqAt.shaped b = true) : OpD K π (rEqD K) a b (· = .bool (PyData.eqv a b)) :=
  opd_val (v := .bl (PyData.eqv a b)) (fun _ => .bl _) fun x y H Q hx hy q => ⟨a, b, da_shaped hx ha, da_shaped hy hb, ha, hb, q⟩
theorem od_neD {a b : PyData} (ha : SeqAt.shaped a = true) (hb : SeqAt.shaped b = true) : OpD K π (rNeD K) a b (· = .bool (!PyData.eqv a b)) :=
  opd_val (v := .bl (!PyData.eqv a b)) (fun _ => .bl _) fun x y H Q hx hy q => ⟨a, b, da_shaped hx ha, da_shaped hy hb, ha, hb, q⟩

/-! ### arguments, displays -/
theorem el_nil : EvL K π tNil σ H0 (· = []) := fun H1 o Q q => q [] [] H0 H1 rfl o.stp .nil
theorem el_cons {Φl Ψl : List PyData → Prop} (h : EvD K π te σ H0 Φ) (ht : EvL K π tl σ H0 Φl) (k : ∀ d ds, Φ d → Φl ds → Ψl (d :: ds)) : EvL K π (tCons te tl) σ H0 Ψl := fun H1 o Q q =>
  h H1 o _ fun x a N H2 pa s1 ka => ht.mono s1.ex H2 (s1.okk o) _ fun vs ds N2 H3 pb s2 kb => q _ _ N2 H3 (k a ds pa pb) (s1.trans s2 o) (.cons (dp_ex s2.ex ka) kb)
theorem el_c {d : PyData} {ds : List PyData} (h : EvD K π te σ H0 (· = d)) (ht : EvL K π tl σ H0 (· = ds)) : EvL K π (tCons te tl) σ H0 (· = d :: ds) := el_cons h ht fun _ _ e1 e2 => by rw [e1, e2]
theorem dps_len : ∀ {ds : List PyData} {vs : List V}, DaAll K H0 vs ds → vs.length = ds.length
  | [], _, h => by cases h; rfl
  | _ :: _, _, h => by
    cases h with
    | cons h1 h2 => rw [List.length_cons, List.length_cons, dps_len h2]
theorem ed_tup {Φl : List PyData → Prop} (h : EvL K π tl σ H0 Φl) (hz : ∀ ds, Φl ds → ds.length ≤ 100000) (k : ∀ ds, Φl ds → Φ (.tuple ds)) : EvD K π (tTup tl) σ H0 Φ := fun H1 o Q q =>
  h H1 o _ fun vs ds N H2 pd s1 kd => ⟨Evl.sz_of (by rw [dps_len kd]; exact hz ds pd), fun p hp => by
    have s2 : Stp K π N H2 (upd N p (.tup vs)) (upd H2 p (.tup vs)) := (s1.okk o).new hp (Ex.new hp) upd_same
    exact q _ (.tuple ds) _ _ (k ds pd) (s1.trans s2 o) (.tup (st_of upd_same) (dps_ex s2.ex kd))⟩
theorem ed_t {ds : List PyData} (h : EvL K π tl σ H0 (· = ds)) (hz : ds.length ≤ 100000 := by first | decide | (simp only [List.length_cons, List.length_nil]; decide)) : EvD K π (tTup tl) σ H0 (· = .tuple ds) := ed_tup h (fun _ e => by rw [e]; exact hz) fun _ e => by rw [e]
theorem ed_lst {Φl : List PyData → Prop} (h : EvL K π tl σ H0 Φl) (hz : ∀ ds, Φl ds → ds.length ≤ 100000) (k : ∀ ds, Φl ds → Φ (.list ds)) : EvD K π (tLst tl) σ H0 Φ := fun H1 o Q q =>
  h H1 o _ fun vs ds N H2 pd s1 kd => ⟨Evl.sz_of (by rw [dps_len kd]; exact hz ds pd), fun p hp => by
    have s2 : Stp K π N H2 (upd N p (.lst vs)) (upd H2 p (.lst vs)) := (s1.okk o).new hp (Ex.new hp) upd_same
    exact q _ (.list ds) _ _ (k ds pd) (s1.trans s2 o) (.lst (sq_of upd_same) (dps_ex s2.ex kd))⟩
theorem ed_l {ds : List PyData} (h : EvL K π tl σ H0 (· = ds)) (hz : ds.length ≤ 100000 := by first | decide | (simp only [List.length_cons, List.length_nil]; decide)) : EvD K π (tLst tl) σ H0 (· = .list ds) := ed_lst h (fun _ e => by rw [e]; exact hz) fun _ e => by rw [e]

/-! ### tests -/
theorem eb_test {Φb : Bool → Prop} (h : EvD K π te σ H0 Φ) (k : ∀ d, Φ d → ∃ b, d = .bool b ∧ Φb b) : EvB K π (tTest te) σ H0 Φb := fun H1 o Q q => h H1 o _ fun v d N H2 hd s kd => by
  obtain ⟨b, rfl, hb⟩ := k d hd
  exact ⟨b, dp_bl kd, q b N H2 hb s⟩
theorem eb_B {Φb : Bool → Prop} (h : EvD K π te σ H0 Φ) (k : ∀ d, Φ d → ∃ b, d = .bool b ∧ Φb b) : EvB K π (tB te) σ H0 Φb := fun H1 o Q q => h H1 o _ fun v d N H2 hd s kd => by
  obtain ⟨b, rfl, hb⟩ := k d hd
  exact ⟨b, dp_bl kd, q b N H2 hb s⟩
theorem eb_t {b : Bool} (h : EvD K π te σ H0 (· = .bool b)) : EvB K π (tTest te) σ H0 (· = b) := eb_test h fun d e => ⟨b, e, rfl⟩
theorem eb_b {b : Bool} (h : EvD K π te σ H0 (· = .bool b)) : EvB K π (tB te) σ H0 (· = b) := eb_B h fun d e => ⟨b, e, rfl⟩
theorem eb_yes : EvB K π tYes σ H0 (· = true) := fun H1 o Q q => q true H0 H1 rfl o.stp
theorem eb_and {Φa Φb Φc : Bool → Prop} (h1 : EvB K π tt σ H0 Φa) (h2 : Φa true → EvB K π tu σ H0 Φb) (k1 : Φa true → ∀ b, Φb b → Φc b) (k0 : Φa false → Φc false) : EvB K π (tAnd tt tu) σ H0 Φc := fun H1 o Q q => h1 H1 o _ fun a N H2 pa s => by
  cases a with
  | true => exact (h2 pa).mono s.ex H2 (s.okk o) _ fun b N2 H3 pb s2 => q b N2 H3 (k1 pa b pb) (s.trans s2 o)
  | false => exact q false N H2 (k0 pa) s
theorem eb_or {Φa Φb Φc : Bool → Prop} (h1 : EvB K π tt σ H0 Φa) (h2 : Φa false → EvB K π tu σ H0 Φb) (k1 : Φa false → ∀ b, Φb b → Φc b) (k0 : Φa true → Φc true) : EvB K π (tOr tt tu) σ H0 Φc := fun H1 o Q q => h1 H1 o _ fun a N H2 pa s => by
  cases a with
  | false => exact (h2 pa).mono s.ex H2 (s.okk o) _ fun b N2 H3 pb s2 => q b N2 H3 (k1 pa b pb) (s.trans s2 o)
  | true => exact q true N H2 (k0 pa) s
theorem eb_not {Φa : Bool → Prop} (h1 : EvB K π tt σ H0 Φa) : EvB K π (tNot tt) σ H0 (fun b => Φa (!b)) := fun H1 o Q q => h1 H1 o _ fun a N H2 pa s => q (!a) N H2 (by show Φa (!(!a)); rw [Bool.not_not]; exact pa) s
theorem eb_and' {a b : Bool} (h1 : EvB K π tt σ H0 (· = a)) (h2 : a = true → EvB K π tu σ H0 (· = b)) : EvB K π (tAnd tt tu) σ H0 (· = (a && b)) :=
  eb_and h1 (fun e => h2 e.symm) (fun e c ec => by rw [ec, ← e]; rfl) fun e => by rw [← e]; rfl
theorem eb_or' {a b : Bool} (h1 : EvB K π tt σ H0 (· = a)) (h2 : a = false → EvB K π tu σ H0 (· = b)) : EvB K π (tOr tt tu) σ H0 (· = (a || b)) :=
  eb_or h1 (fun e => h2 e.symm) (fun e c ec => by rw [ec, ← e]; rfl) fun e => by rw [← e]; rfl
theorem eb_not' {a : Bool} (h1 : EvB K π tt σ H0 (· = a)) : EvB K π (tNot tt) σ H0 (· = !a) := (eb_not h1).imp fun b e => by rw [← e, Bool.not_not]
theorem ed_if {Φb : Bool → Prop} (h : EvB K π tt σ H0 Φb) (h1 : Φb true → EvD K π ta σ H0 Φ) (h2 : Φb false → EvD K π tb σ H0 Φ) : EvD K π (tIf tt ta tb) σ H0 Φ := fun H1 o Q q => h H1 o _ fun b N H2 pb s => by
  cases b with
  | true => exact (h1 pb).mono s.ex H2 (s.okk o) _ fun v d N2 H3 pd s2 kd => q v d N2 H3 pd (s.trans s2 o) kd
  | false => exact (h2 pb).mono s.ex H2 (s.okk o) _ fun v d N2 H3 pd s2 kd => q v d N2 H3 pd (s.trans s2 o) kd
theorem ed_andV {a b : Bool} (h1 : EvD K π ta σ H0 (· = .bool a)) (h2 : a = true → EvD K π tb σ H0 (· = .bool b)) : EvD K π (tAndV ta tb) σ H0 (· = .bool (a && b)) := fun H1 o Q q => h1 H1 o _ fun v d N H2 pd s kd => by
  subst pd
  refine ⟨a, dp_bl kd, ?_⟩
  cases a with
  | true => exact (h2 rfl).mono s.ex H2 (s.okk o) _ fun v d N2 H3 pd s2 kd => q v d N2 H3 pd (s.trans s2 o) kd
  | false => exact q (.bl false) _ N H2 rfl s (.bl false)
theorem ed_orV {a b : Bool} (h1 : EvD K π ta σ H0 (· = .bool a)) (h2 : a = false → EvD K π tb σ H0 (· = .bool b)) : EvD K π (tOrV ta tb) σ H0 (· = .bool (a || b)) := fun H1 o Q q => h1 H1 o _ fun v d N H2 pd s kd => by
  subst pd
  refine ⟨a, dp_bl kd, ?_⟩
  cases a with
  | false => exact (h2 rfl).mono s.ex H2 (s.okk o) _ fun v d N2 H3 pd s2 kd => q v d N2 H3 pd (s.trans s2 o) kd
  | true => exact q (.bl true) _ N H2 rfl s (.bl true)
theorem ed_notV {a : Bool} (h1 : EvD K π ta σ H0 (· = .bool a)) : EvD K π (tNotV ta) σ H0 (· = .bool (!a)) := fun H1 o Q q => h1 H1 o _ fun v d N H2 pd s kd => by
  subst pd
  exact ⟨a, dp_bl kd, q (.bl (!a)) _ N H2 rfl s (.bl (!a))⟩
def notNone : PyData → Bool
  | .none => false
  | _ => true
theorem ed_notN (h1 : EvD K π ta σ H0 Φ) : EvD K π (tNotN ta) σ H0 (fun e => ∃ d, Φ d ∧ e = .bool (notNone d)) := fun H1 o Q q => h1 H1 o _ fun v d N H2 pd s kd => by
  refine q _ _ N H2 ⟨d, pd, rfl⟩ s ?_
  cases kd <;> exact .bl _
end
end Dl

set_option maxRecDepth 100000
set_option maxHeartbeats 4000000
/-! tuples further: t[::-1], t * k for every small k -/
namespace Dt
open PySem PySem.Spec PyProof.Rows L2
section
variable {prog : Program} {w : World} {A : Around} {E : Value → Shared → Prop} {s : Shared}
theorem rev_bounds (n : Nat) : Builtin.Slice.sliceAdjust none none (-1) (n : Int) = ((n : Int) - 1, -1) := by
  unfold Builtin.Slice.sliceAdjust
  simp
theorem rev_places (n : Nat) : Builtin.Slice.slicePlaces ((n : Int) - 1) (-1) (-1) = n := by
  unfold Builtin.Slice.slicePlaces
  show (if (n : Int) - 1 > -1 then ((n : Int) - 1 - -1 - 1) / 1 + 1 else 0).toNat = n
  rw [Int.ediv_one]
  split <;> omega
theorem rev_pick (xs : Array Value) : ((List.range xs.size).filterMap fun (k : Nat) => xs[((xs.size : Int) - 1 + (k : Int) * (-1)).toNat]?).toArray = xs.toList.reverse.toArray := by
  have e1 : (List.range xs.size).filterMap (fun (k : Nat) => xs[((xs.size : Int) - 1 + (k : Int) * (-1)).toNat]?) = ((List.range xs.size).map fun k => xs.size - 1 - k).filterMap (xs[·]?) := by
    rw [List.filterMap_map]
    refine congrArg (fun f => List.filterMap f (List.range xs.size)) (funext fun k => ?_)
    have : ((xs.size : Int) - 1 + (k : Int) * (-1)).toNat = xs.size - 1 - k := by omega
    rw [this]
    rfl
  rw [e1, PySem.W.krv_range, List.filterMap_reverse, PySem.W.krv_all]
theorem getItem_rev {t sl : Addr} {items : Array Value} {vs : Value} {Q : Value → Shared → Prop} (ht : IsTup s.heap t items) (hs : s.heap.IsSliceOf sl .none .none vs) (pv : IsPart vs (some (-1))) (hz : items.size ≤ sizeLine)
    (h : Q (.ref s.heap.objs.size) { s with heap := s.heap.push { cls := .type "tuple", data := .seq items.toList.reverse.toArray } }) : wpAny (model prog w) A (getItem (.ref t) (.ref sl)) Q E s := by
  have hok : sizeOk (.seq items.toList.reverse.toArray) := by
    show items.toList.reverse.toArray.size ≤ sizeLine
    rw [List.size_toArray, List.length_reverse, Array.length_toList]
    exact hz
  obtain ⟨os, hos, hcs, hds⟩ := id hs
  have hTs : s.TypeIs (.ref sl) "slice" := ⟨os, hos, hcs⟩
  unfold getItem
  try with_reducible refine wpAny_holding ?_
  first | refine wpAny_bind (wpAny_pure ?_) | skip
  apply wpAny_bind
  apply wpAny_sequenceKey ht.typeIs (by decide)
  apply wpAny_bind
  apply wpAny_callSpecial?_slot (name := Str.ofString "__getitem__") ht.typeIs PyProof.Rows.slot_tuple_getitem
  refine wpAny_call_entry PyProof.Rows.slot_tuple_getitem ht.typeIs entry_tuple_getitem ?_ (args_tuple_getitem _ _)
  show wpAny _ _ (Builtin.Tuple.tupleItemsOf (.ref t) >>= _) _ _ s
  apply wpAny_bind
  apply tupleItemsOf_ ht
  apply wpAny_bind
  apply wpAny_typeOf hTs
  rw [if_pos (by decide)]
  apply wpAny_bind
  show wpAny _ _ (Builtin.Slice.sliceApplied (.ref sl) (pure (items.size : Int))) _ _ s
  unfold Builtin.Slice.sliceApplied Builtin.Slice.sliceFields
  refine wpAny_bind (wpAny_bind (wpAny_field hos hds (x := .none) rfl (wpAny_bind (wpAny_field hos hds (x := .none) rfl (wpAny_bind (wpAny_field hos hds (x := vs) rfl (wpAny_pure ?_)))))))
  apply wpAny_bind
  apply HT.slicePart_ pv
  show wpAny _ _ (if ((-1 : Int) == 0) = true then _ else _) _ _ s
  rw [if_neg (by decide)]
  apply wpAny_bind
  apply HT.slicePart_ .none
  apply wpAny_bind
  apply HT.slicePart_ .none
  apply wpAny_bind
  apply wpAny_pure
  show wpAny _ _ (match Builtin.Slice.sliceAdjust none none (-1) (items.size : Int) with | (lo, hi) => pure (lo, (-1 : Int), Builtin.Slice.slicePlaces lo hi (-1))) _ _ s
  rw [rev_bounds]
  show wpAny _ _ (pure ((items.size : Int) - 1, (-1 : Int), Builtin.Slice.slicePlaces ((items.size : Int) - 1) (-1) (-1))) _ _ s
  rw [rev_places]
  apply wpAny_pure
  show wpAny _ _ (if (((items.size : Int) - 1) == 0 && (-1 : Int) == 1 && items.size == items.size) = true then _ else _) _ _ s
  rw [if_neg (by simp), rev_pick]
  first
    | exact wpAny_bind (m := Builtin.Tuple.tupleExact _) (wpAny_newObj_type (wpAny_pure ⟨_, rfl, wpAny_pure h⟩) hok)
    | exact wpAny_bind (m := Builtin.Tuple.tupleExact _) (wpAny_newObj_type (wpAny_bind (wpAny_pure (wpAny_pure ⟨_, rfl, wpAny_pure h⟩))) hok)
    | exact wpAny_bind (wpAny_bind (m := Builtin.Tuple.tupleExact _) (wpAny_newObj_type (wpAny_pure (wpAny_pure ⟨_, rfl, wpAny_pure h⟩)) hok))
    | exact wpAny_bind (wpAny_bind (m := Builtin.Tuple.tupleExact _) (wpAny_newObj_type (wpAny_pure ⟨_, rfl, wpAny_pure h⟩) hok))
end
section
variable {X : Cx}
def tRevT (K : PySem.W.Frag) (te : TE) : TE := fun σ H Q => te σ H fun x H1 => ∃ a xs, x = .ref a ∧ SqT K H1 a xs ∧ ∀ p, H1 p = none → Q (.ref p) (upd H1 p (.tup xs.reverse))
theorem pe_revT {e : Expr} {te : TE} {k : Nat} {p1 p2 p3 pos : Pos} (he : PE X e te) : PE X (.Subscript e (.Slice none none (some (.UnaryOp .USub (.Constant (.int 1) k p1) p2)) p3) pos) (tRevT X.K te) := by
  constructor
  intro pins s σ H Q I h
  refine Subscript_ (thn (he.run pins s σ H _ I h) ?_)
  rintro v s1 ⟨x, H1, I1, r1, a, xs, rfl, hx, q⟩
  cases r1
  have hst : PO X (some (.UnaryOp .USub (.Constant (.int 1) k p1) p2)) (tPart (tUn (rU fun i => .int (-i)) (tC (.int 1)))) := po_some (pe_un un_neg pe_int)
  refine wpAny_Slice (thn (po_none.run pins s1 σ H1 (fun o H2 => o = none ∧ H2 = H1) I1 ⟨rfl, rfl⟩) ?_)
  rintro vl s2 ⟨l, H2, I2, pl, rfl, rfl⟩
  refine thn (po_none.run pins s2 σ H2 (fun o H3 => o = none ∧ H3 = H2) I2 ⟨rfl, rfl⟩) ?_
  rintro vu s3 ⟨u, H3, I3, pu, rfl, rfl⟩
  refine thn (hst.run pins s3 σ H3 (fun o H4 => o = some (-1) ∧ H4 = H3) I3 ⟨1, rfl, -1, rfl, rfl, rfl⟩) ?_
  rintro vs s4 ⟨o, H4, I4, ps, rfl, rfl⟩
  cases pl
  cases pu
  have I5 : Inv X pins σ H4 { s4 with heap := s4.heap.push { cls := .type "slice", data := .fields #[.none, .none, vs] } } := I4.kept (t' := s4.toks) fun b ob q => Heap.get?_push_of_some _ q
  obtain ⟨its, r, ht, hz⟩ := I5.tuple hx
  show wpAny (model X.prog X.w) X.A (subscriptTail e (.Slice none none (some (.UnaryOp .USub (.Constant (.int 1) k p1) p2)) p3) (.ref a) (.ref s4.heap.objs.size)) (EP X pins σ Q) X.xe { s4 with heap := s4.heap.push { cls := .type "slice", data := .fields #[.none, .none, vs] } }
  have hlen : its.toArray.size = xs.length := by
    rw [List.size_toArray]
    exact r.length.symm
  apply tail_any (ops := [.ref a, .ref s4.heap.objs.size]) ht.typeIs PyProof.Rows.slot_tuple_getitem.lookup _ (by with_unfolding_all rfl)
  apply getItem_rev ht (Heap.IsSliceOf.new _ .none .none vs) ps (by rw [hlen]; exact hz)
  refine ⟨.ref _, _, I5.laid (t' := s4.toks) (o := .tup xs.reverse) (fun b ob q => Heap.get?_push_of_some _ q) (Nat.le_refl _) ?_, rfl, q _ (I5.hok.fresh (Nat.le_refl _))⟩
  exact ⟨by rw [List.length_reverse]; exact hz, _, r.reverse, IsTup.new _ _⟩

/-! ### t * k, k from 0 on -/
theorem mul_same (l : Addr) (items : Array Value) (n : Nat) (dd : Option Addr) (sl : Array (Option Value)) (x : Int) (u : Tok) (c0 : (decide (x < -(2 ^ 63)) || decide (x ≥ 2 ^ 63)) = false) (c1 : (items.isEmpty || x == 1) = true) :
    Meets (Builtin.«tuple.__mul__» ⟨[.ref l, .int x u], []⟩) (fun _ R s => s.heap.get? l = some { cls := .type "tuple", dict := dd, data := .seq items n, slots := sl } ∧ R (.ok (.ret (Value.ref l))) s) :=
  .of_wp fun prog w A R s h => by
    obtain ⟨hp, g, d, tk, os⟩ := s
    obtain ⟨hl, h⟩ := h
    have f1 := AutoSeq1.idx_int
    wp_walk using wpAny_loadPart' hl
    repeat (first
      | (refine wpAny_ite_false (decide_eq_false (by rw [c0]; exact Bool.false_ne_true)) ?_; wp_walk using wpAny_loadPart' hl)
      | (refine wpAny_ite_true (decide_eq_true c1) ?_; wp_walk using wpAny_loadPart' hl))
    exact ⟨_, rfl, h⟩
theorem mul_none (l : Addr) (items : Array Value) (n : Nat) (dd : Option Addr) (sl : Array (Option Value)) (x : Int) (u : Tok) (c0 : (decide (x < -(2 ^ 63)) || decide (x ≥ 2 ^ 63)) = false) (c1 : (items.isEmpty || x == 1) = false)
    (c2 : (decide (x ≤ 0) || items.isEmpty) = true) :
    Meets (Builtin.«tuple.__mul__» ⟨[.ref l, .int x u], []⟩) (fun _ R s => s.heap.get? l = some { cls := .type "tuple", dict := dd, data := .seq items n, slots := sl } ∧
      R (.ok (.ret (Value.ref s.heap.objs.size))) { s with heap := s.heap.push { cls := Value.type "tuple", data := Data.seq #[] }, toks := s.toks }) :=
  .of_wp fun prog w A R s h => by
    obtain ⟨hp, g, d, tk, os⟩ := s
    obtain ⟨hl, h⟩ := h
    have f1 := AutoSeq1.idx_int
    wp_walk using wpAny_loadPart' hl
    repeat (first
      | (refine wpAny_ite_false (decide_eq_false (by rw [c0]; exact Bool.false_ne_true)) ?_; wp_walk using wpAny_loadPart' hl)
      | (refine wpAny_ite_false (decide_eq_false (by rw [c1]; exact Bool.false_ne_true)) ?_; wp_walk using wpAny_loadPart' hl)
      | (refine wpAny_ite_true (decide_eq_true c2) ?_; wp_walk using wpAny_loadPart' hl)
      | (refine wpAny_ite_false (decide_eq_false (Nat.not_lt.mpr (Nat.zero_le _))) ?_; wp_walk using wpAny_loadPart' hl))
    exact ⟨_, rfl, h⟩
/-- t * k for every k from 0 to 1000 -/
def rRepA (K : PySem.W.Frag) : R2 := fun x y H Q => ∃ l k xs, x = .ref l ∧ y = .int k ∧ SqT K H l xs ∧ 0 ≤ k ∧ k ≤ 1000 ∧ xs.length ≤ 1000 ∧
  ((xs = [] ∨ k = 1) → Q (.ref l) H) ∧ (¬ (xs = [] ∨ k = 1) → ∀ p, H p = none → Q (.ref p) (upd H p (.tup (List.replicate k.toNat xs).flatten)))
theorem op_repA : OpR X (binaryOp .Mult) (rRepA X.K) := by
  intro pins s σ H x y v u Q I rx ry h
  obtain ⟨l, k, xs, rfl, rfl, hT, h0, h1, hz, q1, q2⟩ := h
  by_cases hc : xs = [] ∨ k = 1
  · cases rx
    obtain ⟨t, rfl⟩ := ry
    obtain ⟨its, r, ⟨⟨cls, dd, data, sl⟩, ho, hcl, n, hd⟩, hs⟩ := I.tuple hT
    simp only at hcl hd
    subst hcl hd
    have hle : its.length = xs.length := r.length.symm
    have c0 : (decide (k < -(2 ^ 63)) || decide (k ≥ 2 ^ 63)) = false := by
      rw [decide_eq_false (by omega), decide_eq_false (by omega)]
      rfl
    have c1 : (its.toArray.isEmpty || k == 1) = true := by
      rcases hc with e | e
      · rw [e] at hle
        have e2 := List.eq_nil_of_length_eq_zero hle
        subst e2
        rfl
      · subst e
        rw [Bool.or_eq_true]
        exact .inr rfl
    refine wpAny_binaryOp_repeat_ref (T := "tuple") (U := "int") (by decide) ⟨_, ho, rfl⟩ (fun s' => typeIs_int s' k t) noFill_tuple_mul F.fills_int_mul F.slot_int_rmul repeat_tuple F.slot_int_index.lookup
      (call_meets F.slot_int_rmul (typeIs_int s k t) F.entry_int_rmul (F.args_int_rmul_2 _ _) (int_rmul_tuple k t l its.toArray n dd sl) ?_)
    refine ⟨ho, rfl, ⟨_, ho, rfl⟩, call_meets F.slot_tuple_mul ⟨_, ho, rfl⟩ F.entry_tuple_mul (F.args_tuple_mul_2 _ _) (mul_same l its.toArray n dd sl k t c0 c1) ⟨ho, ?_⟩⟩
    exact ⟨.ref l, H, I, rfl, q1 hc⟩
  · have hx : xs ≠ [] := fun e => hc (.inl e)
    have hk1 : k ≠ 1 := fun e => hc (.inr e)
    by_cases hk : 2 ≤ k
    · exact op_repT pins s σ H _ _ v u Q I rx ry ⟨l, k, xs, rfl, rfl, hT, hx, hk, h1, hz, q2 hc⟩
    · have e0 : k = 0 := by omega
      subst e0
      cases rx
      obtain ⟨t, rfl⟩ := ry
      obtain ⟨its, r, ⟨⟨cls, dd, data, sl⟩, ho, hcl, n, hd⟩, hs⟩ := I.tuple hT
      simp only at hcl hd
      subst hcl hd
      have hle : its.length = xs.length := r.length.symm
      have hne : its.toArray.isEmpty = false := by
        cases its with
        | nil => exact absurd (List.eq_nil_of_length_eq_zero hle.symm) hx
        | cons a b => rfl
      have c1 : (its.toArray.isEmpty || (0 : Int) == 1) = false := by
        rw [hne]
        rfl
      refine wpAny_binaryOp_repeat_ref (T := "tuple") (U := "int") (by decide) ⟨_, ho, rfl⟩ (fun s' => typeIs_int s' 0 t) noFill_tuple_mul F.fills_int_mul F.slot_int_rmul repeat_tuple F.slot_int_index.lookup
        (call_meets F.slot_int_rmul (typeIs_int s 0 t) F.entry_int_rmul (F.args_int_rmul_2 _ _) (int_rmul_tuple 0 t l its.toArray n dd sl) ?_)
      refine ⟨ho, rfl, ⟨_, ho, rfl⟩, call_meets F.slot_tuple_mul ⟨_, ho, rfl⟩ F.entry_tuple_mul (F.args_tuple_mul_2 _ _) (mul_none l its.toArray n dd sl 0 t rfl c1 rfl) ⟨ho, ?_⟩⟩
      refine ⟨.ref s.heap.objs.size, _, I.laid (t' := s.toks) (o := .tup []) (fun b ob q => Heap.get?_push_of_some _ q) (Nat.le_refl _) ?_, rfl, q2 hc _ (I.hok.fresh (Nat.le_refl _))⟩
      exact ⟨Nat.zero_le _, [], .nil, IsTup.new _ _⟩
end
end Dt

set_option maxRecDepth 100000
set_option maxHeartbeats 4000000
namespace Dl
open PySem PySem.Spec PyProof.Rows L2 Gd Dt
open Evl (Ex Ex.refl Ex.trans Ex.new ex_l ex_t sq_of st_of fresh_back)

section
variable {K : PySem.W.Frag} {π : Option Pn} {σ : L2.St} {H0 H0' H1 : Hp} {ta tb te : TE} {tt tu : TT} {tl : TA} {Φ Ψ : DP} {i : Nat}

/-! ### data by places -/
theorem dps_get : ∀ {ds : List PyData} {vs : List V} {i : Nat} {d : PyData}, DaAll K H0 vs ds → ds[i]? = some d → ∃ v, vs[i]? = some v ∧ Da K H0 v d
  | [], _, _, _, _, e => by simp at e
  | _ :: _, _, 0, _, h, e => by
    cases h with
    | cons h1 h2 =>
      simp at e
      subst e
      exact ⟨_, rfl, h1⟩
  | _ :: _, _, i + 1, _, h, e => by
    cases h with
    | cons h1 h2 =>
      obtain ⟨v, a, b⟩ := dps_get (i := i) h2 (by simpa using e)
      exact ⟨v, by simpa using a, b⟩
theorem dps_app : ∀ {ds es : List PyData} {vs ws : List V}, DaAll K H0 vs ds → DaAll K H0 ws es → DaAll K H0 (vs ++ ws) (ds ++ es)
  | [], _, _, _, h, k => by cases h; exact k
  | _ :: _, _, _, _, h, k => by
    cases h with
    | cons h1 h2 => exact .cons h1 (dps_app h2 k)
theorem dps_take : ∀ {ds : List PyData} {vs : List V} (n : Nat), DaAll K H0 vs ds → DaAll K H0 (vs.take n) (ds.take n)
  | _, _, 0, _ => by simp; exact .nil
  | [], _, _ + 1, h => by cases h; exact .nil
  | _ :: _, _, n + 1, h => by
    cases h with
    | cons h1 h2 => exact .cons h1 (dps_take n h2)
theorem dps_drop : ∀ {ds : List PyData} {vs : List V} (n : Nat), DaAll K H0 vs ds → DaAll K H0 (vs.drop n) (ds.drop n)
  | _, _, 0, h => h
  | [], _, _ + 1, h => by cases h; exact .nil
  | _ :: _, _, n + 1, h => by
    cases h with
    | cons h1 h2 => exact dps_drop n h2
theorem dps_rev : ∀ {ds : List PyData} {vs : List V}, DaAll K H0 vs ds → DaAll K H0 vs.reverse ds.reverse
  | [], _, h => by cases h; exact .nil
  | _ :: _, _, h => by
    cases h with
    | cons h1 h2 =>
      rw [List.reverse_cons, List.reverse_cons]
      exact dps_app (dps_rev h2) (.cons h1 .nil)
theorem dps_rep {ds : List PyData} {vs : List V} (h : DaAll K H0 vs ds) : ∀ n : Nat, DaAll K H0 (List.replicate n vs).flatten (List.replicate n ds).flatten
  | 0 => .nil
  | n + 1 => by
    rw [List.replicate_succ, List.replicate_succ, List.flatten_cons, List.flatten_cons]
    exact dps_app h (dps_rep h n)
/-- what stands at an address as a tuple, a list -/
theorem dp_tup {x : V} {ds : List PyData} (h : Da K H0 x (.tuple ds)) : ∃ a xs, x = .ref a ∧ SqT K H0 a xs ∧ DaAll K H0 xs ds := by
  cases h with
  | tup h1 h2 => exact ⟨_, _, rfl, h1, h2⟩
theorem dp_lst {x : V} {ds : List PyData} (h : Da K H0 x (.list ds)) : ∃ a xs, x = .ref a ∧ SqL K H0 a xs ∧ DaAll K H0 xs ds := by
  cases h with
  | lst h1 h2 => exact ⟨_, _, rfl, h1, h2⟩

/-! ### subscripts, slices, sums, products of tuples -/
theorem od_ixT {ds : List PyData} {i : Int} {d : PyData} (h : atI ds i = some d) : OpD K π (rIxT K) (.tuple ds) (.int i) (· = d) := fun x y H0 H1 hx hy o Q q => by
  obtain ⟨a, xs, rfl, hs, hd⟩ := dp_tup hx
  rw [dp_int hy]
  have hl := dps_len hd
  unfold atI at h
  cases hj : ixN ds.length i with
  | none =>
    rw [hj] at h
    cases h
  | some j =>
    rw [hj] at h
    obtain ⟨v, e1, e2⟩ := dps_get hd (show ds[j]? = some d from h)
    exact ⟨a, xs, i, v, rfl, rfl, ex_t o.ex hs, by unfold atI; rw [hl, hj]; exact e1, q v d H0 H1 rfl o.stp e2⟩
theorem od_ixL {ds : List PyData} {i : Int} {d : PyData} (h : atI ds i = some d) : OpD K π (rIxL K) (.list ds) (.int i) (· = d) := fun x y H0 H1 hx hy o Q q => by
  obtain ⟨a, xs, rfl, hs, hd⟩ := dp_lst hx
  rw [dp_int hy]
  have hl := dps_len hd
  unfold atI at h
  cases hj : ixN ds.length i with
  | none =>
    rw [hj] at h
    cases h
  | some j =>
    rw [hj] at h
    obtain ⟨v, e1, e2⟩ := dps_get hd (show ds[j]? = some d from h)
    exact ⟨a, xs, i, v, rfl, rfl, ex_l o.ex hs, by unfold atI; rw [hl, hj]; exact e1, q v d H0 H1 rfl o.stp e2⟩
def cutD (ds : List PyData) (lo hi : Option Int) : List PyData := (ds.drop (HT.sIx ds.length 0 lo)).take (HT.sIx ds.length ds.length hi - HT.sIx ds.length 0 lo)
theorem dps_cut {ds : List PyData} {vs : List V} (lo hi : Option Int) (h : DaAll K H0 vs ds) : DaAll K H0 (cutV vs lo hi) (cutD ds lo hi) := by
  unfold cutV cutD
  rw [dps_len h]
  exact dps_take _ (dps_drop _ h)
theorem eo_no : EvO K π tNoPart σ H0 none := fun H1 o Q q => q H0 H1 o.stp
theorem eo_part {i : Int} (h : EvD K π te σ H0 (· = .int i)) : EvO K π (tPart te) σ H0 (some i) := fun H1 o Q q => h H1 o _ fun v d N H2 e s hv => by
  subst e
  exact ⟨i, dp_int hv, q N H2 s⟩
theorem ed_slT {tlo thi : TO} {lo hi : Option Int} {ds : List PyData} (h : EvD K π te σ H0 (· = .tuple ds)) (hl : EvO K π tlo σ H0 lo) (hu : EvO K π thi σ H0 hi) : EvD K π (tSl (rSlA K) te tlo thi) σ H0 (· = .tuple (cutD ds lo hi)) := fun H1 o Q q =>
  h H1 o _ fun v d N H2 e s hv => hl.mono s.ex H2 (s.okk o) _ fun N2 H3 s2 => hu.mono (s.ex.trans s2.ex) H3 (s2.okk (s.okk o)) _ fun N3 H4 s3 => by
    subst e
    have S := (s.trans s2 o).trans s3 o
    have o4 := S.okk o
    obtain ⟨a, xs, rfl, hs, hd⟩ := dp_tup (dp_ex (s2.ex.trans s3.ex) hv)
    refine ⟨a, xs, rfl, ex_t o4.ex hs, fun hw => ?_, fun hw p hp => ?_⟩
    · have e2 : cutD ds lo hi = ds := by
        unfold cutD
        rw [← dps_len hd, hw.1, hw.2, dps_len hd]
        simp
      exact q _ _ N3 H4 (by rw [e2]) S (.tup hs hd)
    · have s4 := o4.new hp (Ex.new hp) (upd_same (o := .tup (cutV xs lo hi)))
      exact q _ _ _ _ rfl (S.trans s4 o) (.tup (st_of upd_same) (dps_ex s4.ex (dps_cut lo hi hd)))
theorem ed_rev {ds : List PyData} (h : EvD K π te σ H0 (· = .tuple ds)) : EvD K π (tRevT K te) σ H0 (· = .tuple ds.reverse) := fun H1 o Q q => h H1 o _ fun v d N H2 e s hv => by
  subst e
  obtain ⟨a, xs, rfl, hs, hd⟩ := dp_tup hv
  refine ⟨a, xs, rfl, ex_t (s.okk o).ex hs, fun p hp => ?_⟩
  have s4 := (s.okk o).new hp (Ex.new hp) (upd_same (o := .tup xs.reverse))
  exact q _ _ _ _ rfl (s.trans s4 o) (.tup (st_of upd_same) (dps_ex s4.ex (dps_rev hd)))
theorem od_cat {ds es : List PyData} (hz : ds.length + es.length ≤ 100000) : OpD K π (rCatA K) (.tuple ds) (.tuple es) (· = .tuple (ds ++ es)) := fun x y H0 H1 hx hy o Q q => by
  obtain ⟨a, xs, rfl, hs, hd⟩ := dp_tup hx
  obtain ⟨b, ys, rfl, ht, he⟩ := dp_tup hy
  have l1 := dps_len hd
  have l2 := dps_len he
  refine ⟨a, b, xs, ys, rfl, rfl, ex_t o.ex hs, ex_t o.ex ht, Evl.sz_of (by omega), fun e => ?_, fun _ e => ?_, fun _ _ p hp => ?_⟩
  · subst e
    cases hd
    exact q _ _ H0 H1 rfl o.stp (.tup ht he)
  · subst e
    cases he
    exact q _ _ H0 H1 (by rw [List.append_nil]) o.stp (.tup hs hd)
  · have s4 := o.new hp (Ex.new hp) (upd_same (o := .tup (xs ++ ys)))
    exact q _ _ _ _ rfl s4 (.tup (st_of upd_same) (dps_ex s4.ex (dps_app hd he)))
theorem od_rep {ds : List PyData} {k : Int} (h0 : 0 ≤ k) (h1 : k ≤ 1000) (hz : ds.length ≤ 1000) : OpD K π (rRepA K) (.tuple ds) (.int k) (· = .tuple (List.replicate k.toNat ds).flatten) := fun x y H0 H1 hx hy o Q q => by
  obtain ⟨a, xs, rfl, hs, hd⟩ := dp_tup hx
  refine ⟨a, k, xs, rfl, dp_int hy, ex_t o.ex hs, h0, h1, by rw [dps_len hd]; exact hz, fun e => ?_, fun _ p hp => ?_⟩
  · refine q _ _ H0 H1 rfl o.stp ?_
    have e2 : (List.replicate k.toNat ds).flatten = ds := by
      rcases e with e | e
      · subst e
        cases hd
        simp
      · subst e
        simp
    rw [e2]
    exact .tup hs hd
  · have s4 := o.new hp (Ex.new hp) (upd_same (o := .tup (List.replicate k.toNat xs).flatten))
    exact q _ _ _ _ rfl s4 (.tup (st_of upd_same) (dps_ex s4.ex (dps_rep hd _)))

/-! ### calls of built-ins -/
/-- a built-in by data -/
def CbD (K : PySem.W.Frag) (π : Option Pn) (r : List V → Hp → VK → Prop) (ds : List PyData) (Φ : DP) : Prop := ∀ vs H0 H1, DaAll K H0 vs ds → Okk K π H0 H1 → ∀ Q, PostV K π H0 H1 Φ Q → r vs H1 Q
theorem ed_cb {r : List V → Hp → VK → Prop} {Φl : List PyData → Prop} (h : EvL K π tl σ H0 Φl) (k : ∀ ds, Φl ds → CbD K π r ds Φ) : EvD K π (tCB r tl) σ H0 Φ := fun H1 o Q q => h H1 o _ fun vs ds N H2 pd s kd =>
  k ds pd vs N H2 kd (s.okk o) Q fun v d N2 H3 hd s2 hv => q v d N2 H3 hd (s.trans s2 o) hv
theorem ed_cb' {r : List V → Hp → VK → Prop} {ds : List PyData} (h : EvL K π tl σ H0 (· = ds)) (k : CbD K π r ds Φ) : EvD K π (tCB r tl) σ H0 Φ := ed_cb h fun _ e => by rw [e]; exact k
theorem dps1 {vs : List V} {d : PyData} (h : DaAll K H0 vs [d]) : ∃ v, vs = [v] ∧ Da K H0 v d := by
  cases h with
  | cons h1 h2 =>
    cases h2
    exact ⟨_, rfl, h1⟩
abbrev rLen (K : PySem.W.Frag) : List V → Hp → VK → Prop := fun xs H Q => ∃ p ys, xs = [.ref p] ∧ (SqL K H p ys ∨ SqT K H p ys) ∧ Q (.int ys.length) H
theorem cb_lenT {ds : List PyData} : CbD K π (rLen K) [.tuple ds] (· = .int ds.length) := fun vs H0 H1 h o Q q => by
  obtain ⟨v, rfl, hv⟩ := dps1 h
  obtain ⟨a, xs, rfl, hs, hd⟩ := dp_tup hv
  exact ⟨a, xs, rfl, .inr (ex_t o.ex hs), by rw [dps_len hd]; exact q _ _ H0 H1 rfl o.stp (.int _)⟩
theorem cb_lenL {ds : List PyData} : CbD K π (rLen K) [.list ds] (· = .int ds.length) := fun vs H0 H1 h o Q q => by
  obtain ⟨v, rfl, hv⟩ := dps1 h
  obtain ⟨a, xs, rfl, hs, hd⟩ := dp_lst hv
  exact ⟨a, xs, rfl, .inl (ex_l o.ex hs), by rw [dps_len hd]; exact q _ _ H0 H1 rfl o.stp (.int _)⟩
abbrev rTupOf (K : PySem.W.Frag) : List V → Hp → VK → Prop := fun xs H Q => ∃ p ys, xs = [.ref p] ∧ ((SqL K H p ys ∧ ∀ l, H l = none → Q (.ref l) (upd H l (.tup ys))) ∨ (SqT K H p ys ∧ Q (.ref p) H))
theorem cb_tupL {ds : List PyData} : CbD K π (rTupOf K) [.list ds] (· = .tuple ds) := fun vs H0 H1 h o Q q => by
  obtain ⟨v, rfl, hv⟩ := dps1 h
  obtain ⟨a, xs, rfl, hs, hd⟩ := dp_lst hv
  refine ⟨a, xs, rfl, .inl ⟨ex_l o.ex hs, fun p hp => ?_⟩⟩
  have s4 := o.new hp (Ex.new hp) (upd_same (o := .tup xs))
  exact q _ _ _ _ rfl s4 (.tup (st_of upd_same) (dps_ex s4.ex hd))
theorem cb_tupT {ds : List PyData} : CbD K π (rTupOf K) [.tuple ds] (· = .tuple ds) := fun vs H0 H1 h o Q q => by
  obtain ⟨v, rfl, hv⟩ := dps1 h
  obtain ⟨a, xs, rfl, hs, hd⟩ := dp_tup hv
  exact ⟨a, xs, rfl, .inr ⟨ex_t o.ex hs, q _ _ H0 H1 rfl o.stp (.tup hs hd)⟩⟩
theorem cb_repr {d : PyData} (h1 : d.showable = true) (h2 : d.hasDict = false) (h3 : d.depth ≤ 40) (h4 : d.shown.length ≤ sizeLine) : CbD K π (rRepr K) [d] (· = .str d.shown) := fun vs H0 H1 h o Q q => by
  obtain ⟨v, rfl, hv⟩ := dps1 h
  exact ⟨v, d, rfl, da_plain (dp_ex o.ex hv) h2, h1, h2, h3, h4, q _ _ H0 H1 rfl o.stp (.str _)⟩
theorem map_bl : ∀ {bs : List Bool} {vs : List V}, DaAll K H0 vs (bs.map .bool) → vs = bs.map .bl
  | [], _, h => by cases h; rfl
  | _ :: _, _, h => by
    cases h with
    | cons h1 h2 => rw [dp_bl h1, map_bl h2]; rfl
theorem cb_all {bs : List Bool} : CbD K π (rAll K) [.list (bs.map .bool)] (· = .bool (bs.all id)) := fun vs H0 H1 h o Q q => by
  obtain ⟨v, rfl, hv⟩ := dps1 h
  obtain ⟨a, xs, rfl, hs, hd⟩ := dp_lst hv
  rw [map_bl hd] at hs
  exact ⟨a, bs, rfl, ex_l o.ex hs, q _ _ H0 H1 rfl o.stp (.bl _)⟩

/-! ### own defs, by data -/
/-- a def that reads data and hands back data -/
def spD (K : PySem.W.Frag) (pre : List PyData → Prop) (post : List PyData → DP) : Sp := fun vs H Q _ => ∃ H0 ds, DaAll K H0 vs ds ∧ pre ds ∧ Okk K none H0 H ∧ PostV K none H0 H (post ds) Q
/-- a def that draws by the pen at its first place -/
def spP (K : PySem.W.Frag) (pre : List PyData → Prop) (post : List PyData → DP) : Sp := fun vs H Q _ => ∃ (q : Pn) (H0 : Hp) (ws : List V) (ds : List PyData), vs = .ref q.p :: ws ∧ DaAll K H0 ws ds ∧ pre ds ∧ Okk K (some q) H0 H ∧ PostV K (some q) H0 H (post ds) Q
theorem okk_none (o : Okk K π H0 H1) : Okk K none H0 H1 := ⟨o.ex, fun q e => by cases e⟩
theorem stp_any {H2 : Hp} (o : Okk K π H0 H1) (s : Stp K none H0 H1 H0' H2) : Stp K π H0 H1 H0' H2 :=
  have e : Ex H1 H2 := fun a u h => s.off a u (fun q z => by cases z) h
  ⟨s.ex, s.gr, s.ex2, Off.of e, fun q z => (o.pen q z).2.ex e⟩
theorem sp_ok {pre : List PyData → Prop} {post : List PyData → DP} {ds : List PyData} {vs : List V} {Q : VK} {E : XK} (hp : pre ds) (kd : DaAll K H0 vs ds) (o : Okk K π H0 H1) (q : PostV K π H0 H1 (post ds) Q) : spD K pre post vs H1 Q E :=
  ⟨H0, ds, kd, hp, okk_none o, fun v d N H2 pd s hv => q v d N H2 pd (stp_any o s) hv⟩
theorem ed_go {pre : List PyData → Prop} {post : List PyData → DP} {Φl : List PyData → Prop} (h : EvL K π tl σ H0 Φl) (hp : ∀ ds, Φl ds → pre ds) (k : ∀ ds d, Φl ds → post ds d → Φ d) : EvD K π (tGo (spD K pre post) tl) σ H0 Φ := fun H1 o Q q => h H1 o _ fun vs ds N H2 pd s kd =>
  sp_ok (hp ds pd) kd (s.okk o) fun v d N2 H3 hd s2 hv => q v d N2 H3 (k ds d pd hd) (s.trans s2 o) hv
theorem ed_call {pre : List PyData → Prop} {post : List PyData → DP} {Φl : List PyData → Prop} (h : EvL K π tl σ H0 Φl) (hp : ∀ ds, Φl ds → pre ds) (k : ∀ ds d, Φl ds → post ds d → Φ d) : EvD K π (tCall (spD K pre post) [] E0 tl) σ H0 Φ := fun H1 o Q q => h H1 o _ fun vs ds N H2 pd s kd =>
  show spD K pre post (vs ++ []) H2 Q E0 by
    rw [List.append_nil]
    exact sp_ok (hp ds pd) kd (s.okk o) fun v d N2 H3 hd s2 hv => q v d N2 H3 (k ds d pd hd) (s.trans s2 o) hv
theorem ed_callP {q : Pn} {pre : List PyData → Prop} {post : List PyData → DP} {Φl : List PyData → Prop} (hv : σ[i]? = some (some (.ref q.p))) (h : EvL K (some q) tl σ H0 Φl) (hp : ∀ ds, Φl ds → pre ds) (k : ∀ ds d, Φl ds → post ds d → Φ d) :
    EvD K (some q) (tCall (spP K pre post) [] E0 (tCons (tVar i) tl)) σ H0 Φ := fun H1 o Q qq => ⟨_, hv, h H1 o _ fun vs ds N H2 pd s kd =>
  show spP K pre post ((.ref q.p :: vs) ++ []) H2 Q E0 by
    rw [List.append_nil]
    exact ⟨q, N, vs, ds, rfl, kd, hp ds pd, s.okk o, fun v d N2 H3 hd s2 hv => qq v d N2 H3 (k ds d pd hd) (s.trans s2 o) hv⟩⟩
theorem ed_goP {q : Pn} {pre : List PyData → Prop} {post : List PyData → DP} {Φl : List PyData → Prop} (hv : σ[i]? = some (some (.ref q.p))) (h : EvL K (some q) tl σ H0 Φl) (hp : ∀ ds, Φl ds → pre ds) (k : ∀ ds d, Φl ds → post ds d → Φ d) :
    EvD K (some q) (tGo (spP K pre post) (tCons (tVar i) tl)) σ H0 Φ := fun H1 o Q qq => ⟨_, hv, h H1 o _ fun vs ds N H2 pd s kd =>
  ⟨q, N, vs, ds, rfl, kd, hp ds pd, s.okk o, fun v d N2 H3 hd s2 hv => qq v d N2 H3 (k ds d pd hd) (s.trans s2 o) hv⟩⟩

/-! ### what is walked -/
structure WalkD (K : PySem.W.Frag) (π : Option Pn) (J : It) (xs : List PyData) (N : Hp) : Prop where
  go : ∀ i M H, Ex N M → Okk K π M H → i < xs.length → J.go i H
  stop : ∀ M H, Ex N M → Okk K π M H → J.stop xs.length H
  yld : ∀ i M H x H', Ex N M → Okk K π M H → i < xs.length → J.yld i H x H' → ∃ M' d, xs[i]? = some d ∧ Stp K π M H M' H' ∧ Da K M' x d
def EvI (K : PySem.W.Frag) (π : Option Pn) (wi : TI) (σ : L2.St) (H0 : Hp) (Φ : List PyData → Prop) : Prop := ∀ H1, Okk K π H0 H1 → ∀ R : It → Hp → Prop, (∀ J xs N H2, Φ xs → Stp K π H0 H1 N H2 → WalkD K π J xs N → R J H2) → wi σ H1 R
theorem EvI.mono {wi : TI} {Φ : List PyData → Prop} (e : Ex H0 H0') (h : EvI K π wi σ H0 Φ) : EvI K π wi σ H0' Φ := fun H1 o R q => h H1 (okk_less e o) R fun J xs N H2 hx s w => by
  obtain ⟨M, hM, s'⟩ := stp_more e o s
  exact q J xs M H2 hx s' ⟨fun i A B e1 => w.go i A B (hM.trans e1), fun A B e1 => w.stop A B (hM.trans e1), fun i A B x H' e1 => w.yld i A B x H' (hM.trans e1)⟩
theorem ei_tup {xs : List PyData} (h : EvD K π te σ H0 (· = .tuple xs)) : EvI K π (iTup K te) σ H0 (· = xs) := fun H1 o R q => h H1 o _ fun v d N H2 e s hv => by
  subst e
  obtain ⟨a, vs, rfl, hs, hd⟩ := dp_tup hv
  refine ⟨a, rfl, ⟨vs, ex_t (s.okk o).ex hs⟩, q _ xs N H2 rfl s ⟨fun i M H e1 oM hi => ?_, fun M H e1 oM => ?_, fun i M H x H' e1 oM hi hy => ?_⟩⟩
  · obtain ⟨w, ew, _⟩ := dps_get hd (List.getElem?_eq_getElem hi)
    exact ⟨vs, w, ex_t (e1.trans oM.ex) hs, ew⟩
  · exact ⟨vs, ex_t (e1.trans oM.ex) hs, by rw [dps_len hd]; exact Nat.le_refl _⟩
  · obtain ⟨rfl, hy⟩ := hy
    have z := hy vs (ex_t (e1.trans oM.ex) hs)
    obtain ⟨w, ew, kw⟩ := dps_get hd (List.getElem?_eq_getElem hi)
    rw [z] at ew
    cases ew
    exact ⟨M, _, List.getElem?_eq_getElem hi, oM.stp, dp_ex e1 kw⟩
theorem ei_lst {xs : List PyData} (h : EvD K π te σ H0 (· = .list xs)) : EvI K π (iList K te) σ H0 (· = xs) := fun H1 o R q => h H1 o _ fun v d N H2 e s hv => by
  subst e
  obtain ⟨a, vs, rfl, hs, hd⟩ := dp_lst hv
  refine ⟨a, rfl, ⟨vs, ex_l (s.okk o).ex hs⟩, q _ xs N H2 rfl s ⟨fun i M H e1 oM hi => ?_, fun M H e1 oM => ?_, fun i M H x H' e1 oM hi hy => ?_⟩⟩
  · obtain ⟨w, ew, _⟩ := dps_get hd (List.getElem?_eq_getElem hi)
    exact ⟨vs, w, ex_l (e1.trans oM.ex) hs, ew⟩
  · exact ⟨vs, ex_l (e1.trans oM.ex) hs, by rw [dps_len hd]; exact Nat.le_refl _⟩
  · obtain ⟨rfl, hy⟩ := hy
    have z := hy vs (ex_l (e1.trans oM.ex) hs)
    obtain ⟨w, ew, kw⟩ := dps_get hd (List.getElem?_eq_getElem hi)
    rw [z] at ew
    cases ew
    exact ⟨M, _, List.getElem?_eq_getElem hi, oM.stp, dp_ex e1 kw⟩
def upto (lo : Int) (n : Nat) : List PyData := (List.range n).map fun k => .int (lo + (k : Nat))
theorem upto_len (lo : Int) (n : Nat) : (upto lo n).length = n := by simp [upto]
theorem upto_get {lo : Int} {n i : Nat} {d : PyData} (h : (upto lo n)[i]? = some d) : i < n ∧ d = .int (lo + (i : Nat)) := by
  have hi := (List.getElem?_eq_some_iff.mp h).1
  rw [upto_len] at hi
  unfold upto at h
  rw [List.getElem?_map, List.getElem?_range hi] at h
  exact ⟨hi, (Option.some.inj h).symm⟩
theorem wd_range {lo : Int} {n : Nat} {N : Hp} : WalkD K π (Itr lo n) (upto lo n) N :=
  ⟨fun i M H _ _ hi => by rw [upto_len] at hi; exact hi, fun M H _ _ => by rw [upto_len]; exact Nat.le_refl _, fun i M H x H' e1 oM hi hy => by
    obtain ⟨rfl, rfl⟩ := hy
    rw [upto_len] at hi
    refine ⟨M, .int (lo + (i : Nat)), ?_, oM.stp, .int _⟩
    unfold upto
    rw [List.getElem?_map, List.getElem?_range hi]
    rfl⟩
theorem ei_range1 {Φl : List PyData → Prop} {Ψl : List PyData → Prop} (h : EvL K π tl σ H0 Φl) (k : ∀ ds, Φl ds → ∃ n : Int, ds = [.int n] ∧ -(2 ^ 62) ≤ n ∧ n < 2 ^ 62 ∧ Ψl (upto 0 n.toNat)) : EvI K π (iRng1 tl) σ H0 Ψl := fun H1 o R q => h H1 o _ fun vs ds N H2 pd s kd => by
  obtain ⟨n, rfl, h1, h2, hx⟩ := k ds pd
  obtain ⟨v, rfl, hv⟩ := dps1 kd
  rw [dp_int hv]
  exact ⟨n, rfl, h1, h2, q _ _ N H2 hx s wd_range⟩
theorem ei_range2 {Φl : List PyData → Prop} {Ψl : List PyData → Prop} (h : EvL K π tl σ H0 Φl) (k : ∀ ds, Φl ds → ∃ m n : Int, ds = [.int m, .int n] ∧ (-(2 ^ 62) ≤ m ∧ m < 2 ^ 62 ∧ -(2 ^ 62) ≤ n ∧ n < 2 ^ 62) ∧ Ψl (upto m (n - m).toNat)) : EvI K π (iRng2 tl) σ H0 Ψl := fun H1 o R q => h H1 o _ fun vs ds N H2 pd s kd => by
  obtain ⟨m, n, rfl, h1, hx⟩ := k ds pd
  cases kd with
  | cons k1 k2 =>
    obtain ⟨v, rfl, hv⟩ := dps1 k2
    rw [dp_int hv, dp_int k1]
    exact ⟨m, n, rfl, h1, q _ _ N H2 hx s wd_range⟩
def pairs (xs ys : List PyData) : List PyData := List.zipWith (fun x y => .tuple [x, y]) xs ys
theorem pairs_get {xs ys : List PyData} {i : Nat} {x y : PyData} (h1 : xs[i]? = some x) (h2 : ys[i]? = some y) : (pairs xs ys)[i]? = some (.tuple [x, y]) := by
  unfold pairs
  rw [List.getElem?_zipWith, h1, h2]
theorem pairs_of {xs ys : List PyData} {i : Nat} {d : PyData} (h : (pairs xs ys)[i]? = some d) : ∃ x y, xs[i]? = some x ∧ ys[i]? = some y ∧ d = .tuple [x, y] := by
  unfold pairs at h
  rw [List.getElem?_zipWith] at h
  cases h1 : xs[i]? with
  | none => rw [h1] at h; cases h
  | some x =>
    cases h2 : ys[i]? with
    | none => rw [h1, h2] at h; cases h
    | some y =>
      rw [h1, h2] at h
      exact ⟨x, y, rfl, rfl, (Option.some.inj h).symm⟩
theorem ei_zipT {xs ys : List PyData} (h : EvL K π tl σ H0 (· = [.tuple xs, .tuple ys])) : EvI K π (RZ.iZipA K tl) σ H0 (· = pairs xs ys) := fun H1 o R q => h H1 o _ fun vs ds N H2 pd s kd => by
  subst pd
  cases kd with
  | cons k1 k2 =>
    obtain ⟨v, rfl, hv⟩ := dps1 k2
    obtain ⟨a, us, rfl, hs, hd⟩ := dp_tup k1
    obtain ⟨b, ws, rfl, ht, he⟩ := dp_tup hv
    have len : (pairs xs ys).length = min xs.length ys.length := by simp [pairs]
    have l1 := dps_len hd
    have l2 := dps_len he
    refine ⟨a, b, us, ws, rfl, .inr ⟨ex_t (s.okk o).ex hs, ex_t (s.okk o).ex ht, q _ _ N H2 rfl s ⟨fun i M H e1 oM hi => ?_, fun M H e1 oM => ?_, fun i M H x H' e1 oM hi hy => ?_⟩⟩⟩
    · obtain ⟨x, ex, _⟩ := dps_get hd (List.getElem?_eq_getElem (show i < xs.length by omega))
      obtain ⟨y, ey, _⟩ := dps_get he (List.getElem?_eq_getElem (show i < ys.length by omega))
      exact ⟨us, ws, x, y, ex_t (e1.trans oM.ex) hs, ex_t (e1.trans oM.ex) ht, ex, ey⟩
    · exact ⟨us, ws, ex_t (e1.trans oM.ex) hs, ex_t (e1.trans oM.ex) ht, by omega⟩
    · obtain ⟨T, u, w, rfl, hT, rfl, hx, hy⟩ := hy
      have z1 := hx us (ex_t (e1.trans oM.ex) hs)
      have z2 := hy ws (ex_t (e1.trans oM.ex) ht)
      have g1 := List.getElem?_eq_getElem (show i < xs.length by omega)
      have g2 := List.getElem?_eq_getElem (show i < ys.length by omega)
      obtain ⟨x, ex, kx⟩ := dps_get hd g1
      obtain ⟨y, ey, ky⟩ := dps_get he g2
      rw [z1] at ex
      rw [z2] at ey
      cases ex
      cases ey
      have s4 := oM.new hT (Ex.new hT) (upd_same (o := .tup [u, w]))
      exact ⟨_, _, pairs_get g1 g2, s4, .tup (st_of upd_same) (.cons (dp_ex (e1.trans s4.ex) kx) (.cons (dp_ex (e1.trans s4.ex) ky) .nil))⟩

/-! ### targets -/
def TgD (K : PySem.W.Frag) (g : TG) (ok : PyData → Prop) (T : PyData → Hp → L2.St → L2.St → Prop) : Prop := ∀ x d M H σ (Q : L2.St → Hp → Prop), ok d → Da K M x d → Ex M H → (∀ σ', T d M σ σ' → Q σ' H) → g x σ H Q
def T1 (K : PySem.W.Frag) (j : Nat) : PyData → Hp → L2.St → L2.St → Prop := fun d M σ σ' => ∃ x, Da K M x d ∧ σ' = σ.set j (some x)
def T2 (K : PySem.W.Frag) (j k : Nat) : PyData → Hp → L2.St → L2.St → Prop := fun d M σ σ' => ∃ a b x y, d = .tuple [a, b] ∧ Da K M x a ∧ Da K M y b ∧ σ' = (σ.set j (some x)).set k (some y)
theorem tg1 {j : Nat} : TgD K (gName j) (fun _ => True) (T1 K j) := fun x d M H σ Q _ hx _ q => q _ ⟨x, hx, rfl⟩
theorem tg2 {j k : Nat} : TgD K (gTup K 2 (gCons (gName j) (gCons (gName k) gNil))) (fun d => ∃ a b, d = .tuple [a, b]) (T2 K j k) := fun x d M H σ Q hd hx e q => by
  obtain ⟨a, b, rfl⟩ := hd
  obtain ⟨p, vs, rfl, hs, hall⟩ := dp_tup hx
  cases hall with
  | cons h1 h2 =>
    obtain ⟨y, rfl, hy⟩ := dps1 h2
    exact ⟨p, _, rfl, ex_t e hs, rfl, _, _, rfl, _, _, rfl, rfl, q _ ⟨a, b, _, y, rfl, h1, hy, rfl⟩⟩

/-- an object that the walk's beginning does not know may change -/
theorem Stp.mut {M H2 : Hp} {l : Addr} {ob : HO} (s : Stp K π H0 H1 M H2) (o : Okk K π H0 H1) (h1 : H1 l = none) (hM : M l = none) : Stp K π H0 H1 M (upd H2 l ob) := by
  have h2 : ∀ a u, H1 a = some u → a ≠ l := fun a u e z => by rw [z, h1] at e; cases e
  refine ⟨s.ex, s.gr, fun a u e => ?_, fun a u n e => ?_, fun q hq => ?_⟩
  · rw [upd_ne (fun z => by rw [z, hM] at e; cases e)]
    exact s.ex2 a u e
  · rw [upd_ne (h2 a u e)]
    exact s.off a u n e
  · have P1 := (o.pen q hq).2
    have P2 := s.pen q hq
    obtain ⟨c1, c2, c3⟩ := P1.cells
    obtain ⟨b1, b2, b3⟩ := P2.cells
    refine ⟨⟨b1, b2, by rw [upd_ne (h2 _ _ c3)]; exact b3⟩, ?_, P2.ne, P2.few⟩
    rcases P1.given with (h | ⟨ob', h⟩) | h
    · refine .inl (.inl ?_)
      rw [upd_ne (h2 _ _ h)]
      exact s.off _ _ (fun q' hq' z => by rw [hq] at hq'; cases hq'; exact P1.ne z) h
    · refine .inl (.inr ⟨ob', ?_⟩)
      rw [upd_ne (h2 _ _ h)]
      exact s.off _ _ (fun q' hq' z => by rw [hq] at hq'; cases hq'; exact P1.ne z) h
    · exact .inr h

/-! ### comprehensions -/
/-- a new list -/
def EvF (K : PySem.W.Frag) (π : Option Pn) (te : TE) (σ : L2.St) (H0 : Hp) (Φ : List PyData → Prop) : Prop := ∀ H1, Okk K π H0 H1 → ∀ Q : VK,
  (∀ p vs ds N H2, Φ ds → Stp K π H0 H1 N H2 → N p = some (.lst vs) → DaAll K N vs ds → Q (.ref p) H2) → te σ H1 Q
theorem EvF.ed {Φl : List PyData → Prop} (h : EvF K π te σ H0 Φl) (k : ∀ ds, Φl ds → Φ (.list ds)) : EvD K π te σ H0 Φ := fun H1 o Q q =>
  h H1 o Q fun p vs ds N H2 hd s hp kd => q _ _ N H2 (k ds hd) s (.lst (sq_of hp) kd)
theorem ef_lc {Φ : List PyData → Prop} {wi : TI} {g : TG} {vs : List Nat} {Φx : List PyData → Prop} {T : PyData → Hp → L2.St → L2.St → Prop} {ok : PyData → Prop} (hi : EvI K π wi σ H0 Φx) (hT : TgD K g ok T) (hok : ∀ xs d, Φx xs → d ∈ xs → ok d) (hlen : ∀ xs, Φx xs → xs.length ≤ 40000)
    (hw : ∀ d M σ', T d M (wipe σ vs) σ' → wipe σ' vs = wipe σ vs) (Pv : List PyData → Nat → List PyData → Prop) (h0 : ∀ xs, Φx xs → Pv xs 0 [])
    (hs : ∀ xs i d acc M σ', Φx xs → xs[i]? = some d → Ex H0 M → T d M (wipe σ vs) σ' → Pv xs i acc → ∃ Φb : Bool → Prop, EvB K π tt σ' M Φb ∧ (Φb true → EvD K π te σ' M fun y => Pv xs (i + 1) (acc ++ [y])) ∧ (Φb false → Pv xs (i + 1) acc))
    (hd : ∀ xs acc, Φx xs → Pv xs xs.length acc → Φ acc) : EvF K π (tLc wi g tt te vs) σ H0 Φ := fun H1 o Q q => hi H1 o _ fun J xs N H2 px s wk D hD => by
  have oN := s.okk o
  have nD : N D = none := fresh_back oN.ex hD
  let Inv := fun (i : Nat) (H : Hp) => ∃ M acc accV, M D = none ∧ Stp K π N H2 M H ∧ H D = some (.lst accV) ∧ DaAll K M accV acc ∧ Pv xs i acc ∧ acc.length ≤ i
  refine ⟨fun i m H => m = xs.length - i ∧ i ≤ xs.length ∧ Inv i H, ⟨xs.length, by simp, Nat.zero_le _, ?_⟩, ?_⟩
  · exact ⟨N, [], [], nD, oN.stp.mut oN hD nD, upd_same, .nil, h0 xs px, Nat.le_refl _⟩
  rintro i m H ⟨rfl, hi', M, acc, accV, mD, sM, hDH, hacc, pv, hla⟩
  have oM := sM.okk oN
  by_cases hlt : i < xs.length
  · refine .inr ⟨wk.go i M H sM.ex oM hlt, Inv (i + 1), fun H' p' => ⟨xs.length - (i + 1), by omega, rfl, hlt, p'⟩, fun x H' hy => ?_⟩
    obtain ⟨M', d, ed, s1, kd⟩ := wk.yld i M H x H' sM.ex oM hlt hy
    have o1 := s1.okk oM
    have neD : ∀ q, π = some q → D ≠ q.p := fun q hq z => by
      rw [z] at hD
      exact (oN.pen q hq).2.some hD
    have m1D := s1.out mD (by rw [hDH]; exact fun z => by cases z)
    have h1D : H' D = some (.lst accV) := s1.off _ _ neD hDH
    refine hT x d M' H' _ _ (hok xs d px (List.mem_of_getElem? ed)) kd o1.ex fun σ' tσ => ⟨hw d M' σ' tσ, ?_⟩
    obtain ⟨Φb, hb, ht, hf⟩ := hs xs i d acc M' σ' px ed (s.ex.trans (sM.ex.trans s1.ex)) tσ pv
    refine hb H' o1 _ fun b M2 H3 pb s2 => ?_
    have o2 := s2.okk o1
    have m2D := s2.out m1D (by rw [h1D]; exact fun z => by cases z)
    have h2D : H3 D = some (.lst accV) := s2.off _ _ neD h1D
    cases b with
    | false =>
      show Inv (i + 1) H3
      exact ⟨M2, acc, accV, m2D, (sM.trans s1 oN).trans s2 oN, h2D, dps_ex (s1.ex.trans s2.ex) hacc, hf pb, by omega⟩
    | true =>
      refine (ht pb).mono s2.ex H3 o2 _ fun y dy M3 H4 py s3 ky => ?_
      have m3D := s3.out m2D (by rw [h2D]; exact fun z => by cases z)
      have h3D : H4 D = some (.lst accV) := s3.off _ _ neD h2D
      have S := ((sM.trans s1 oN).trans s2 oN).trans s3 oN
      have hl := dps_len hacc
      have hx := hlen xs px
      refine ⟨accV, h3D, Evl.sz_lt (by omega), M3, acc ++ [dy], accV ++ [y], m3D, S.mut oN hD m3D, upd_same, ?_, py, by rw [List.length_append, List.length_singleton]; omega⟩
      exact dps_app (dps_ex (s1.ex.trans (s2.ex.trans s3.ex)) hacc) (.cons ky .nil)
  · have e : i = xs.length := by omega
    subst e
    refine .inl ⟨wk.stop M H sM.ex oM, ?_⟩
    have sD : Stp K π N H2 (upd M D (.lst accV)) H := by
      refine ⟨sM.ex.trans (Ex.new mD), fun a ha => ?_, fun a u ha => ?_, sM.off, sM.pen⟩
      · by_cases ea : a = D
        · subst ea
          exact .inr hD
        · rw [upd_ne ea] at ha
          exact sM.gr a ha
      · by_cases ea : a = D
        · subst ea
          rw [upd_same] at ha
          cases ha
          exact hDH
        · rw [upd_ne ea] at ha
          exact sM.ex2 a u ha
    exact q _ _ _ _ _ (hd xs acc px pv) (s.trans sD o) upd_same (dps_ex (Ex.new mD) hacc)

/-! ### statements -/
variable {M H : Hp} {D : Ends} {t u tz : TS} {S0 S1 : Hp}
theorem PostV.go (q : PostV K π S0 S1 Φ Q) (o : Okk K π S0 S1) (s : Stp K π S0 S1 M H) (k : ∀ d, Ψ d → Φ d) : PostV K π M H Ψ Q := fun v d N H2 hd s2 hv => q v d N H2 (k d hd) (s.trans s2 o) hv
theorem s_ret (h : EvD K π te σ M Φ) (o : Okk K π M H) (q : PostV K π M H Φ D.rt) : tRet te D σ H := h H o _ q
theorem s_asg (h : EvD K π te σ M Φ) (o : Okk K π M H) (k : ∀ v d M' H', Φ d → Stp K π M H M' H' → Da K M' v d → D.nx (σ.set i (some v)) H') : tAsg te (gName i) D σ H := h H o _ fun v d N H2 hd s hv => k v d N H2 hd s hv
theorem q_asg (h : EvD K π te σ M Φ) (o : Okk K π M H) (k : ∀ v d M' H', Φ d → Stp K π M H M' H' → Da K M' v d → tz D (σ.set i (some v)) H') : tSeq (tAsg te (gName i)) tz D σ H := s_asg (D := { D with nx := tz D }) h o k
theorem s_if {Φb : Bool → Prop} (h : EvB K π tt σ M Φb) (o : Okk K π M H) (k1 : Φb true → ∀ M' H', Stp K π M H M' H' → t D σ H') (k2 : Φb false → ∀ M' H', Stp K π M H M' H' → u D σ H') : tIfS tt t u D σ H := h H o _ fun b N H2 hb s => by
  cases b with
  | true => exact k1 hb N H2 s
  | false => exact k2 hb N H2 s
theorem q_if {Φb : Bool → Prop} (h : EvB K π tt σ M Φb) (o : Okk K π M H) (k1 : Φb true → ∀ M' H', Stp K π M H M' H' → t { D with nx := tz D } σ H') (k2 : Φb false → ∀ M' H', Stp K π M H M' H' → u { D with nx := tz D } σ H') : tSeq (tIfS tt t u) tz D σ H :=
  s_if (D := { D with nx := tz D }) h o k1 k2
/-- if c: .. (no else), then the rest -/
theorem q_when {Φb : Bool → Prop} (h : EvB K π tt σ M Φb) (o : Okk K π M H) (k1 : Φb true → ∀ M' H', Stp K π M H M' H' → t { D with nx := tz D } σ H') (k2 : Φb false → ∀ M' H', Stp K π M H M' H' → tz D σ H') : tSeq (tIfS tt t tNext) tz D σ H :=
  s_if (D := { D with nx := tz D }) h o k1 k2
theorem q_par {j : Nat} {Φ2 : PyData → PyData → Prop} (h : EvL K π tl σ M (fun ds => ∃ a b, ds = [a, b] ∧ Φ2 a b)) (o : Okk K π M H)
    (k : ∀ v w a b M' H', Φ2 a b → Stp K π M H M' H' → Da K M' v a → Da K M' w b → tz D ((σ.set i (some v)).set j (some w)) H') : tSeq (tPar i j tl) tz D σ H := h H o _ fun vs ds N H2 hd s kd => by
  obtain ⟨a, b, rfl, hab⟩ := hd
  cases kd with
  | cons k1 k2 =>
    obtain ⟨w, rfl, hw⟩ := dps1 k2
    exact ⟨_, _, rfl, k _ w a b N H2 hab s k1 hw⟩
theorem s_for {wi : TI} {g : TG} {Φx : List PyData → Prop} {T : PyData → Hp → L2.St → L2.St → Prop} {ok : PyData → Prop} (hi : EvI K π wi σ M Φx) (o : Okk K π M H) (hT : TgD K g ok T) (hok : ∀ xs d, Φx xs → d ∈ xs → ok d)
    (Pv : List PyData → Nat → L2.St → Hp → Hp → Prop) (hO : ∀ xs i σ' M' H', Pv xs i σ' M' H' → Okk K π M' H')
    (h0 : ∀ xs N H2, Φx xs → Stp K π M H N H2 → Pv xs 0 σ N H2)
    (hs : ∀ xs i d σ' M' H' M2 H2 σ2, Φx xs → Ex M M' → Pv xs i σ' M' H' → Stp K π M' H' M2 H2 → xs[i]? = some d → T d M2 σ' σ2 → t { D with nx := fun σ3 H3 => ∃ M3, Ex M' M3 ∧ Pv xs (i + 1) σ3 M3 H3, ct := fun σ3 H3 => ∃ M3, Ex M' M3 ∧ Pv xs (i + 1) σ3 M3 H3, bk := D.nx } σ2 H2)
    (hd : ∀ xs σ' M' H', Φx xs → Ex M M' → Pv xs xs.length σ' M' H' → D.nx σ' H') : tFor wi g t D σ H := hi H o _ fun J xs N H2 px s wk => by
  refine ⟨fun i m σ' H' => m = xs.length - i ∧ i ≤ xs.length ∧ ∃ M', Ex N M' ∧ Pv xs i σ' M' H', ⟨xs.length, by simp, Nat.zero_le _, N, Ex.refl _, h0 xs N H2 px s⟩, ?_⟩
  rintro i m σ' H' ⟨rfl, hi', M', e1, pv⟩
  have oM := hO _ _ _ _ _ pv
  by_cases hlt : i < xs.length
  · refine .inr ⟨wk.go i M' H' e1 oM hlt, fun σ3 H3 => ∃ M3, Ex M' M3 ∧ Pv xs (i + 1) σ3 M3 H3, ?_, fun x H'' hy => ?_⟩
    · rintro σ3 H3 ⟨M3, e3, p3⟩
      exact ⟨xs.length - (i + 1), by omega, rfl, hlt, M3, e1.trans e3, p3⟩
    obtain ⟨M2, d, ed, s1, kd⟩ := wk.yld i M' H' x H'' e1 oM hlt hy
    exact hT x d M2 H'' σ' _ (hok xs d px (List.mem_of_getElem? ed)) kd (s1.okk oM).ex fun σ2 tσ => hs xs i d σ' M' H' M2 H'' σ2 px (s.ex.trans e1) pv s1 ed tσ
  · have e : i = xs.length := by omega
    subst e
    exact .inl ⟨wk.stop M' H' e1 oM, hd xs σ' M' H' px (s.ex.trans e1) pv⟩
theorem q_for {wi : TI} {g : TG} {Φx : List PyData → Prop} {T : PyData → Hp → L2.St → L2.St → Prop} {ok : PyData → Prop} (hi : EvI K π wi σ M Φx) (o : Okk K π M H) (hT : TgD K g ok T) (hok : ∀ xs d, Φx xs → d ∈ xs → ok d)
    (Pv : List PyData → Nat → L2.St → Hp → Hp → Prop) (hO : ∀ xs i σ' M' H', Pv xs i σ' M' H' → Okk K π M' H')
    (h0 : ∀ xs N H2, Φx xs → Stp K π M H N H2 → Pv xs 0 σ N H2)
    (hs : ∀ xs i d σ' M' H' M2 H2 σ2, Φx xs → Ex M M' → Pv xs i σ' M' H' → Stp K π M' H' M2 H2 → xs[i]? = some d → T d M2 σ' σ2 → t { D with nx := fun σ3 H3 => ∃ M3, Ex M' M3 ∧ Pv xs (i + 1) σ3 M3 H3, ct := fun σ3 H3 => ∃ M3, Ex M' M3 ∧ Pv xs (i + 1) σ3 M3 H3, bk := tz D } σ2 H2)
    (hd : ∀ xs σ' M' H', Φx xs → Ex M M' → Pv xs xs.length σ' M' H' → tz D σ' H') : tSeq (tFor wi g t) tz D σ H := s_for (D := { D with nx := tz D }) hi o hT hok Pv hO h0 hs hd
/-- while c: W with a measure -/
theorem q_while (W : Nat → L2.St → Hp → Hp → Prop) (m0 : Nat) (hO : ∀ m σ' M' H', W m σ' M' H' → Okk K π M' H') (h0 : W m0 σ M H)
    (hs : ∀ m σ' M' H', W m σ' M' H' → ∃ b : Bool, EvB K π tt σ' M' (· = b) ∧
      (b = true → ∀ M2 H2, Stp K π M' H' M2 H2 → t { D with nx := fun σ3 H3 => ∃ m' M3, m' < m ∧ W m' σ3 M3 H3, ct := fun σ3 H3 => ∃ m' M3, m' < m ∧ W m' σ3 M3 H3, bk := tz D } σ' H2) ∧
      (b = false → ∀ M2 H2, Stp K π M' H' M2 H2 → tz D σ' H2)) : tSeq (tWhile tt t) tz D σ H := by
  refine ⟨fun m σ' H' => ∃ M', W m σ' M' H', ⟨m0, M, h0⟩, ?_⟩
  rintro m σ' H' ⟨M', w⟩
  obtain ⟨b, hb, k1, k2⟩ := hs m σ' M' H' w
  refine hb H' (hO _ _ _ _ w) _ fun c N H2 ec s => ?_
  subst ec
  cases c with
  | true => exact ⟨_, fun σ3 H3 ⟨m', M3, l, w3⟩ => ⟨m', l, M3, w3⟩, k1 rfl N H2 s⟩
  | false => exact k2 rfl N H2 s
/-- lists that change: a new one; append, extend; from now on read alone -/
theorem q_new (k : ∀ p, H p = none → tz D (σ.set i (some (.ref p))) (upd H p (.lst []))) : tSeq (tAsg (tLst tNil) (gName i)) tz D σ H := ⟨Nat.zero_le _, k⟩
theorem s_app {l : Addr} {xs : List V} (ha : σ[i]? = some (some (.ref l))) (hl : H l = some (.lst xs)) (hn : ∀ q, π = some q → l ≠ q.p) (hz : xs.length < 100000) (h : EvD K π te σ M Φ) (o : Okk K π M H)
    (k : ∀ v d M' H', Φ d → Stp K π M H M' H' → Da K M' v d → H' l = some (.lst xs) → D.nx σ (upd H' l (.lst (xs ++ [v])))) : tDrop (tBM K "list" rAppend (tVar i) (tCons te tNil)) D σ H := by
  refine ⟨_, ha, .inl ⟨rfl, _, .inl (.inl hl)⟩, h H o _ fun v d N H2 hd s hv => ?_⟩
  have h2 := s.off _ _ hn hl
  exact ⟨l, xs, v, rfl, rfl, h2, Evl.sz_lt hz, k v d N H2 hd s hv h2⟩
theorem s_ext {l : Addr} {xs : List V} {Φl : List PyData → Prop} (ha : σ[i]? = some (some (.ref l))) (hl : H l = some (.lst xs)) (hn : ∀ q, π = some q → l ≠ q.p) (h : EvF K π te σ M Φl) (o : Okk K π M H) (hz : ∀ ds, Φl ds → xs.length + ds.length ≤ 100000)
    (k : ∀ vs ds M' H', Φl ds → Stp K π M H M' H' → DaAll K M' vs ds → H' l = some (.lst xs) → D.nx σ (upd H' l (.lst (xs ++ vs)))) : tDrop (tBM K "list" rExtend (tVar i) (tCons te tNil)) D σ H := by
  refine ⟨_, ha, .inl ⟨rfl, _, .inl (.inl hl)⟩, h H o _ fun p vs ds N H2 hd s hp kd => ?_⟩
  have h2 := s.off _ _ hn hl
  exact ⟨l, p, xs, vs, rfl, rfl, h2, s.ex2 _ _ hp, Evl.sz_of (by rw [dps_len kd]; exact hz ds hd), k vs ds N H2 hd s kd h2⟩
theorem Stp.freeze {l : Addr} {ob : HO} (s : Stp K π S0 S1 M H) (h1 : S1 l = none) (hM : M l = none) (hl : H l = some ob) : Stp K π S0 S1 (upd M l ob) H := by
  refine ⟨s.ex.trans (Ex.new hM), fun a ha => ?_, fun a u ha => ?_, s.off, s.pen⟩
  · by_cases ea : a = l
    · subst ea
      exact .inr h1
    · rw [upd_ne ea] at ha
      exact s.gr a ha
  · by_cases ea : a = l
    · subst ea
      rw [upd_same] at ha
      cases ha
      exact hl
    · rw [upd_ne ea] at ha
      exact s.ex2 a u ha
end
end Dl

set_option maxRecDepth 100000
set_option maxHeartbeats 4000000
namespace Dl
open PySem PySem.Spec PyProof.Rows L2 Gd Dt
open Evl (Ex Ex.refl Ex.trans Ex.new ex_l ex_t sq_of st_of fresh_back)

/-- the built-ins stand under their names -/
structure Blt (mg : Str → Option Value) : Prop where
  len : mg "len" = none
  int : mg "int" = none
  list : mg "list" = none
  tuple : mg "tuple" = none
  repr : mg "repr" = none
  range : mg "range" = none
  zip : mg "zip" = none
  all : mg "all" = none

/-- a def of the text that keeps its promise, as callers find it -/
structure Cal (P : Program) (w : World) (K : PySem.W.Frag) (mg : Str → Option Value) (base : Heap) (x : Str) (k : Nat) (ps : List Str) (sp : Sp) : Prop where
  ex : ∃ (f : Addr) (fd : FuncData), FnOk P w K mg base CX0 k f fd ps sp ∧ mg x = some (.ref f) ∧ PySem.W.keepIn K (.ref f) = true ∧ L2.Binds K fd ps []
/-- the same where no repr is on its way -/
structure CalG (P : Program) (w : World) (K : PySem.W.Frag) (mg : Str → Option Value) (base : Heap) (x : Str) (k : Nat) (ps : List Str) (sp : Sp) : Prop where
  ex : ∃ (f : Addr) (fd : FuncData), Fn P w K mg base k f fd ps sp ∧ mg x = some (.ref f) ∧ PySem.W.keepIn K (.ref f) = true ∧ L2.Binds K fd ps []
section
variable {X : Cx} {k j : Nat} {ps : List Str} {sp : Sp} {x : Str} {p pos : Pos} {e : Expr} {es : List Expr} {t : TA}
theorem pe_c (c : Cal X.prog X.w X.K X.mg X.base x k ps sp) (hr : Room k X.A) (hg : Gl X x) (ha : PA X (e :: es) t) (hdb : (x == ("__debug__" : Str)) = false := by decide)
    (he : starEach (e :: es) X.env = (false, eval e X.env) :: starEach es X.env := by rfl) (hpl : (backTo pos (starEach es X.env)).any (·.1) = false := by rfl) : PE X (.Call (.Name x p) (e :: es) [] pos) (tCall sp [] E0 t) := by
  obtain ⟨f, fd, F, hm, hk, hb⟩ := c.ex
  exact pe_call F hr hg hm hk hb .nil pass0 ha hdb he hpl
theorem pe_cg (c : CalG X.prog X.w X.K X.mg X.base x k ps sp) (hfree : Free X.A) (hr : Room k X.A) (hg : Gl X x) (ha : PA X (e :: es) t) (hdb : (x == ("__debug__" : Str)) = false := by decide)
    (he : starEach (e :: es) X.env = (false, eval e X.env) :: starEach es X.env := by rfl) (hpl : (backTo pos (starEach es X.env)).any (·.1) = false := by rfl) : PE X (.Call (.Name x p) (e :: es) [] pos) (tGo sp t) := by
  obtain ⟨f, fd, F, hm, hk, hb⟩ := c.ex
  exact pe_go F hfree hr hg hm hk hb ha hdb he hpl
end

/-! ### tuples of whole numbers -/
def tupI (ns : List Int) : PyData := .tuple (ns.map .int)
theorem shaped_tupI (ns : List Int) : SeqAt.shaped (tupI ns) = true := by
  have h1 : ∀ ns : List Int, PyData.canLayAll0 (ns.map .int) = true := fun ns => by
    induction ns with
    | nil => rfl
    | cons n ns ih => simpa [PyData.canLayAll0, PyData.canLay0] using ih
  have h2 : ∀ ns : List Int, PyData.depthAll (ns.map .int) ≤ 1 := fun ns => by
    induction ns with
    | nil => simp [PyData.depthAll]
    | cons n ns ih => simp only [List.map_cons, PyData.depthAll, PyData.depth]; omega
  unfold SeqAt.shaped tupI
  rw [Bool.and_eq_true]
  refine ⟨h1 ns, decide_eq_true ?_⟩
  have := h2 ns
  simp only [PyData.depth]
  omega
end Dl

set_option maxRecDepth 100000
set_option maxHeartbeats 4000000
namespace Dl
open PySem PySem.Spec PyProof.Rows L2 Gd Dt
open Evl (Ex Ex.refl Ex.trans Ex.new ex_l ex_t sq_of st_of fresh_back)

/-- data of moderate size: what a repr and a comparison ask -/
structure Sm (d : PyData) (dep wt : Nat) : Prop where
  lay : d.canLay0 = true
  shrt : d.intsShort 13 = true
  sho : d.showable = true
  nod : d.hasDict = false
  dpt : d.depth ≤ dep
  wgt : d.weight ≤ wt
theorem Sm.up {d : PyData} {a b a' b' : Nat} (h : Sm d a b) (h1 : a ≤ a') (h2 : b ≤ b') : Sm d a' b' := ⟨h.lay, h.shrt, h.sho, h.nod, Nat.le_trans h.dpt h1, Nat.le_trans h.wgt h2⟩
theorem sm_none : Sm .none 0 0 := ⟨rfl, rfl, rfl, rfl, Nat.le_refl _, Nat.le_refl _⟩
theorem sm_bool (b : Bool) : Sm (.bool b) 0 0 := ⟨rfl, rfl, rfl, rfl, Nat.le_refl _, Nat.le_refl _⟩
theorem log_lt {n : Nat} (h : n < 10 ^ 12) : n.log2 < 40 := by
  by_cases e : n = 0
  · subst e
    decide
  · rw [Nat.log2_lt e]
    have : (10 : Nat) ^ 12 < 2 ^ 40 := by decide
    omega
theorem sm_int {i : Int} (h : i.natAbs < 10 ^ 12) : Sm (.int i) 0 40 := by
  have hl := log_lt h
  refine ⟨rfl, ?_, ?_, rfl, Nat.le_refl _, ?_⟩
  · simp only [PyData.intsShort]
    exact decide_eq_true (PyData.shown_int_le h)
  · simp only [PyData.showable]
    exact decide_eq_true (by omega)
  · simp only [PyData.weight]
    split <;> omega
theorem sm_all {dep wt : Nat} : ∀ {ds : List PyData}, (∀ d ∈ ds, Sm d dep wt) → PyData.canLayAll0 ds = true ∧ PyData.intsShortAll 13 ds = true ∧ PyData.showableAll ds = true ∧ PyData.hasDictAll ds = false ∧ PyData.depthAll ds ≤ dep ∧ PyData.weightAll ds ≤ ds.length * (wt + 1)
  | [], _ => ⟨rfl, rfl, rfl, rfl, Nat.zero_le _, Nat.zero_le _⟩
  | d :: ds, h => by
    obtain ⟨a1, a2, a3, a4, a5, a6⟩ := sm_all (ds := ds) fun x hx => h x (List.mem_cons_of_mem _ hx)
    have hd := h d List.mem_cons_self
    refine ⟨?_, ?_, ?_, ?_, ?_, ?_⟩
    · simp only [PyData.canLayAll0, hd.lay, a1, Bool.and_self]
    · simp only [PyData.intsShortAll, hd.shrt, a2, Bool.and_self]
    · simp only [PyData.showableAll, hd.sho, a3, Bool.and_self]
    · simp only [PyData.hasDictAll, hd.nod, a4, Bool.or_self]
    · simp only [PyData.depthAll]
      have := hd.dpt
      omega
    · have := hd.wgt
      simp only [PyData.weightAll, List.length_cons, Nat.succ_mul]
      omega
theorem sm_tup {dep wt : Nat} {ds : List PyData} (h : ∀ d ∈ ds, Sm d dep wt) : Sm (.tuple ds) (dep + 1) (ds.length * (wt + 1)) := by
  obtain ⟨a1, a2, a3, a4, a5, a6⟩ := sm_all h
  refine ⟨by simpa only [PyData.canLay0] using a1, by simpa only [PyData.intsShort] using a2, by simpa only [PyData.showable] using a3, by simpa only [PyData.hasDict] using a4, ?_, by simpa only [PyData.weight] using a6⟩
  simp only [PyData.depth]
  omega
theorem sm_lst {dep wt : Nat} {ds : List PyData} (h : ∀ d ∈ ds, Sm d dep wt) : Sm (.list ds) (dep + 1) (ds.length * (wt + 1)) := by
  obtain ⟨a1, a2, a3, a4, a5, a6⟩ := sm_all h
  refine ⟨by simpa only [PyData.canLay0] using a1, by simpa only [PyData.intsShort] using a2, by simpa only [PyData.showable] using a3, by simpa only [PyData.hasDict] using a4, ?_, by simpa only [PyData.weight] using a6⟩
  simp only [PyData.depth]
  omega
theorem sm_tupI {ns : List Int} (h : ∀ n ∈ ns, n.natAbs < 10 ^ 12) : Sm (tupI ns) 1 (ns.length * 41) := by
  have := sm_tup (dep := 0) (wt := 40) (ds := ns.map .int) fun d hd => by
    obtain ⟨n, hn, rfl⟩ := List.mem_map.mp hd
    exact sm_int (h n hn)
  rw [List.length_map] at this
  exact this
theorem Sm.shaped {d : PyData} {a b : Nat} (h : Sm d a b) (h1 : a ≤ 64 := by decide) : SeqAt.shaped d = true := by
  unfold SeqAt.shaped
  rw [Bool.and_eq_true]
  exact ⟨h.lay, decide_eq_true (Nat.le_trans h.dpt h1)⟩
theorem Sm.repr {K : PySem.W.Frag} {π : Option Pn} {d : PyData} {a b : Nat} (h : Sm d a b) (h1 : a ≤ 40 := by decide) (h2 : b ≤ 2 ^ 20 := by decide) : CbD K π (rRepr K) [d] (· = .str d.shown) :=
  cb_repr h.sho h.nod (Nat.le_trans h.dpt h1) (PyData.shown_fits (B := 13) (by decide) (by decide) (PyData.leavesShort_of_canLay0 13 d h.lay h.shrt) (Nat.le_trans h.wgt h2))
theorem Sm.eqv {d : PyData} {a b : Nat} (h : Sm d a b) : PyData.eqv d d = true := SeqAt.eqv_refl d h.lay
end Dl

set_option maxRecDepth 100000
set_option maxHeartbeats 4000000
/-! enumerate over a tuple -/
namespace Dl
open PySem PySem.Spec PyProof.Rows L2 Gd Dt
open Evl (Ex Ex.refl Ex.trans Ex.new ex_l ex_t sq_of st_of fresh_back)
open PySem.AutoSeq1 (wpAny_loadPart')
theorem draws_tup {prog : Program} {w : World} {A : Around} (nh : A.handled = none) (it t : Addr) (ne : t ≠ it) (items : Array Value) :
    Draws prog w A it [it, t] items.size (fun i v => items[i]? = some v) (fun i h => IsTupIter h it t i ∧ IsTup h t items) where
  live := fun _ _ st => let ⟨o, ho, _⟩ := st.1; ⟨o, ho⟩
  frame := fun _ _ _ st k => ⟨let ⟨o, ho, r⟩ := st.1; ⟨o, k it (by simp) o ho, r⟩, let ⟨o, ho, r⟩ := st.2; ⟨o, k t (by simp) o ho, r⟩⟩
  item := fun i s Q E hi st q => by
    unfold Builtin.SmallTypes.nextOf
    apply wpAny_bind
    refine special_tup_item st.1 st.2 (x := items[i]) (by simp [hi]) fun h' hit sb => ?_
    dsimp only
    apply wpAny_pure
    refine q _ h' s.toks (by simp [hi]) ⟨hit, ?_⟩ sb
    obtain ⟨o, ho, r⟩ := st.2
    exact ⟨o, (sb.2 t ne).trans ho, r⟩
  done := fun s Q E st e => by
    unfold Builtin.SmallTypes.nextOf
    apply wpAny_bind
    refine special_tup_end nh st.1 st.2 (by simp) fun x h' hx sb => ?_
    obtain ⟨a, o, vs, rfl, h1, h2, _⟩ := hx
    exact e h' a sb ⟨o, h1, h2⟩
theorem new_enumT (l : Addr) (items : Array Value) (n : Nat) (dct : Option Addr) (sl : Array (Option Value)) :
    Meets (Builtin.«enumerate.__new__» ⟨[.type "enumerate", .ref l], []⟩) (fun _ R s => s.heap.get? l = some { cls := .type "tuple", dict := dct, data := .seq items n, slots := sl } ∧
      R (.ok (.ret (.ref (s.heap.push { cls := .type "tuple_iterator", data := .fields #[.ref l, .int 0 0] }).objs.size)))
        { s with heap := (s.heap.push { cls := .type "tuple_iterator", data := .fields #[.ref l, .int 0 0] }).push { cls := .type "enumerate", data := .fields #[.none, .bool false, .ref s.heap.objs.size, rawInt 0, .none, .none] } }) :=
  .of_wp fun prog w A R s h => by
    obtain ⟨hp, g, dr, tk, os⟩ := s
    obtain ⟨hl, h⟩ := h
    have hsub := sub_enumerate
    have hT : Heap.IsTuple (Shared.heap ⟨hp, g, dr, tk, os⟩) l items := ⟨_, hl, rfl, n, rfl⟩
    wp_walk using wpAny_loadPart' hl
    refine wpAny_stack_any fun st => wpAny_pure ?_
    split
    · rename_i c _ _ _ _ _
      cases (c == Value.type "enumerate") <;>
      · wp_walk using wpAny_loadPart' hl, wpAny_pyIter_tuple hT
        exact ⟨_, rfl, h⟩
    · wp_walk using wpAny_loadPart' hl, wpAny_pyIter_tuple hT
      exact ⟨_, rfl, h⟩
section
variable {prog : Program} {w : World} {A : Around} {E : Value → Shared → Prop} {s : Shared}
theorem call_enumT {l : Addr} {items : Array Value} {Q : Value → Shared → Prop} (hT : IsTup s.heap l items)
    (k : ∀ h', IsEnum h' (s.heap.objs.size + 1) s.heap.objs.size 0 .none → IsTupIter h' s.heap.objs.size l 0 → (∀ b o, s.heap.get? b = some o → h'.get? b = some o) → Q (.ref (s.heap.objs.size + 1)) { s with heap := h' }) :
    wpAny (model prog w) A (call (.type "enumerate") [.ref l]) Q E s := by
  obtain ⟨⟨c, dct, dt, sl⟩, hl, hc, n, hd⟩ := hT
  replace hc : c = .type "tuple" := hc
  replace hd : dt = .seq items n := hd
  subst hc hd
  refine callType_new F.called_enumerate (by decide) (F.typeCall_enumerate_1 _) (F.newCall_enumerate_1 _) (fun obj => F.args_object_init_2 obj _) F.entry_enumerate_new (new_enumT l items n dct sl) ⟨hl, ?_⟩
  have z1 : (s.heap.push { cls := .type "tuple_iterator", data := .fields #[.ref l, .int 0 0] }).objs.size = s.heap.objs.size + 1 := Heap.size_push ..
  show _ ∧ _
  rw [z1]
  have he : IsEnum ((s.heap.push { cls := .type "tuple_iterator", data := .fields #[.ref l, .int 0 0] }).push { cls := .type "enumerate", data := .fields #[.none, .bool false, .ref s.heap.objs.size, rawInt 0, .none, .none] }) (s.heap.objs.size + 1) s.heap.objs.size 0 .none := by
    have q := Heap.get?_push_size (s.heap.push { cls := .type "tuple_iterator", data := .fields #[.ref l, .int 0 0] }) (o := { cls := .type "enumerate", data := .fields #[.none, .bool false, .ref s.heap.objs.size, rawInt 0, .none, .none] }) rfl
    rw [z1] at q
    exact q
  exact ⟨⟨_, he, rfl⟩, k _ he ⟨_, Heap.get?_push_of_some _ (Heap.get?_push_size _ rfl), rfl, rfl⟩ fun b o x => Heap.get?_push_of_some _ (Heap.get?_push_of_some _ x)⟩
end
/-- the tuple at a, each item in a new pair with its place -/
def IteT (K : PySem.W.Frag) (a : Addr) : It :=
  ⟨fun i H => ∃ (xs : List V) (x : V), SqT K H a xs ∧ xs[i]? = some x, fun i H v H' => ∃ T x, v = .ref T ∧ H T = none ∧ H' = upd H T (.tup [.int (i : Nat), x]) ∧ ∀ xs, SqT K H a xs → xs[i]? = some x, fun i H => ∃ xs : List V, SqT K H a xs ∧ xs.length = i⟩
theorem turn_enumT {P : Program} {w : World} {K : PySem.W.Frag} {elts : List Expr} {kk : Nat} {tpos : Pos} (a e it : Addr) :
    Turn P w K (.Tuple elts kk tpos) (IteT K a) [e, it] e (fun i h => (∃ old, IsEnum h e it ((i : Nat) : Int) old) ∧ IsTupIter h it a i ∧ e ≠ it) where
  mem := by simp
  obj := fun i h st b hb => by
    obtain ⟨⟨old, he⟩, ⟨o, ho, hc, hd⟩, _⟩ := st
    have e' : b = e ∨ b = it := by simpa using hb
    rcases e' with z | z
    · rw [z]
      exact ⟨_, he, fun v q => nomatch q⟩
    · rw [z]
      exact ⟨o, ho, fun v q => by rw [hd] at q; cases q⟩
  keep := fun i h h' st k => let ⟨⟨old, he⟩, ⟨o, ho, r⟩, ne⟩ := st; ⟨⟨old, k e (by simp) _ he⟩, ⟨o, k it (by simp) o ho, r⟩, ne⟩
  item := by
    intro X hP hw hK hc i pins s σ H E I hf st hg
    subst hP hw hK
    obtain ⟨⟨old, he⟩, hit, ne⟩ := st
    obtain ⟨xs, x, hq, hx⟩ := hg
    obtain ⟨its, rv, p, hz⟩ := I.tuple hq
    obtain ⟨u, hu, ru⟩ := rv.get hx
    have hel : e < s.heap.objs.size := Heap.lt_size he
    have hil : it < s.heap.objs.size := by obtain ⟨_, q, _⟩ := hit; exact Heap.lt_size q
    have hat : a ≠ it := fun z => by
      obtain ⟨o1, h1, c1, _⟩ := hit
      obtain ⟨o2, h2, c2, _⟩ := p
      rw [z, h1] at h2
      cases h2
      rw [c1] at c2
      injection c2 with c2
      exact absurd c2 (by decide)
    have hae : e ≠ a := fun z => by
      obtain ⟨o2, h2, c2, _⟩ := p
      rw [← z, he] at h2
      cases h2
      injection c2 with c2
      exact absurd c2 (by decide)
    have len : i < its.toArray.size := by
      have := (List.getElem?_eq_some_iff.mp hu).1
      simpa using this
    refine wpAny_pyNext_enum_itemD (draws_tup (A := X.A.in1) (I.ok.hd hc) it a hat its.toArray) he ⟨hit, p⟩ len ne (by simp [ne, hae]) fun y h' tk hy ho hst hT hsz hk => ?_
    have ey : y = u := by
      have z : its[i]? = some y := by simpa using hy
      rw [hu] at z
      exact (Option.some.inj z).symm
    subst ey
    refine ⟨_, rfl, wpAny_letOwnedTupleGo_enum (s := { s with heap := h', toks := tk + 1 }) ho fun h'' he' sb => ?_⟩
    have hT2 : h''.get? s.heap.objs.size = some { cls := .type "tuple", data := .seq #[.int i tk, y] } := (sb.2 _ (Nat.ne_of_gt hel)).trans hT
    have new : ObjOk X.prog X.w (upd H s.heap.objs.size (.tup [.int (i : Nat), x])) h'' s.heap.objs.size (.tup [.int (i : Nat), x]) :=
      ⟨by show 2 ≤ sizeLine; decide, [.int i tk, y], .cons ⟨_, rfl⟩ (.cons ru .nil), ⟨_, hT2, rfl, _, rfl⟩⟩
    have I1 : Inv X pins σ (upd H s.heap.objs.size (.tup [.int (i : Nat), x])) { s with heap := h'', toks := tk + 1 } :=
      I.turnedNew (ch := [e, it]) (fun b ob hb q => (sb.2 b (fun z => hb (by simp [z]))).trans (hk b ob (fun z => hb (by simp [z])) (fun z => hb (by simp [z])) q)) hf (Nat.le_refl _) new
    have hit2 : IsTupIter h'' it a (i + 1) := by
      obtain ⟨o, h1, r⟩ := hst.1
      exact ⟨o, (sb.2 it (Ne.symm ne)).trans h1, r⟩
    refine ⟨.ref s.heap.objs.size, _, I1, rfl, ⟨_, x, rfl, I.hok.fresh (Nat.le_refl _), rfl, fun ys hy => ?_⟩, ⟨⟨y, ?_⟩, hit2, ne⟩, fun b hb => ?_⟩
    · have z : ys = xs := by
        obtain ⟨its2, rv2, p2, _⟩ := I.tuple hy
        exact I.tuple_inj hy hq
      rw [z]
      exact hx
    · have e1 : ((i + 1 : Nat) : Int) = (i : Int) + 1 := by omega
      rw [e1]
      exact he'
    · have hb' : b < s.heap.objs.size := by
        have e' : b = e ∨ b = it := by simpa using hb
        rcases e' with z | z
        · rw [z]
          exact hel
        · rw [z]
          exact hil
      rw [upd_ne (Nat.ne_of_lt hb')]
      exact (hf b hb).1
  done := by
    intro X hP hw hK hc i pins s σ H E I hf st hg
    subst hP hw hK
    obtain ⟨⟨old, he⟩, hit, ne⟩ := st
    obtain ⟨xs, hq, hx⟩ := hg
    obtain ⟨its, rv, p, hz⟩ := I.tuple hq
    obtain ⟨f0, f1, f2, f3, f4, f5⟩ := hf it (by simp)
    have hl := rv.length
    have hat : a ≠ it := fun z => by
      obtain ⟨o1, h1, c1, _⟩ := hit
      obtain ⟨o2, h2, c2, _⟩ := p
      rw [z, h1] at h2
      cases h2
      rw [c1] at c2
      injection c2 with c2
      exact absurd c2 (by decide)
    have hi : i = its.toArray.size := by rw [List.size_toArray]; omega
    subst hi
    exact wpAny_pyNext_enum_endD (draws_tup (A := X.A.in1) (I.ok.hd hc) it a hat its.toArray) he ⟨hit, p⟩ fun h' eb => ⟨rfl, I.turned (t' := s.toks) (fun b o hb q => eb b o hb q) f0 f1 f3 f4 f5⟩
  self := fun A i s Q E st h => let ⟨⟨_, he⟩, _⟩ := st; wpAny_pyIter_enum he h
def iEnumT (K : PySem.W.Frag) (ta : TA) : TI := fun σ H R => ta σ H fun vs H1 => ∃ a xs, vs = [.ref a] ∧ SqT K H1 a xs ∧ R (IteT K a) H1
theorem pi_enumT {X : Cx} {e : Expr} {ta : TA} {p pos tpos : Pos} {elts : List Expr} {kk : Nat} (hg : Gl X "enumerate") (hm : X.mg "enumerate" = none) (ha : PA X [e] ta) (hs : starEach [e] X.env = [(false, eval e X.env)] := by rfl) :
    PI X (.Tuple elts kk tpos) (.Call (.Name "enumerate" p) [e] [] pos) (iEnumT X.K ta) := by
  constructor
  intro pins s σ H R I h
  refine Call_ (ld_blt I hg hm boot_enumerate (PyProof.Rows.callWith_type1 (thn (ha.run pos pins s σ H _ I h) fun us s1 ⟨vs, H1, I1, r1, q1⟩ => ?_) hs rfl))
  obtain ⟨a, xs, ex, hq, q⟩ := q1
  subst ex
  cases r1 with
  | cons r rr =>
    cases rr
    cases r
    obtain ⟨its, rv, p', hz⟩ := I1.tuple hq
    refine call_enumT p' fun h' he hit hk => wpAny_pyIter_enum he ?_
    have I2 : Inv X pins σ H1 { s1 with heap := h' } := I1.kept (t' := s1.toks) hk
    refine ⟨s1.heap.objs.size + 1, [s1.heap.objs.size + 1, s1.heap.objs.size], _, _, H1, rfl, I2, turn_enumT a (s1.heap.objs.size + 1) s1.heap.objs.size, ⟨⟨.none, he⟩, hit, Nat.succ_ne_self _⟩, fun b hb => ?_, q⟩
    have hle : s1.heap.objs.size ≤ b := by
      have e' : b = s1.heap.objs.size + 1 ∨ b = s1.heap.objs.size := by simpa using hb
      rcases e' with z | z
      · rw [z]
        exact Nat.le_add_right _ _
      · rw [z]
        exact Nat.le_refl _
    exact I1.fpOk hle (I1.hok.fresh hle)
/-! ### by data -/
def numbered (xs : List PyData) : List PyData := (List.range xs.length).zipWith (fun i x => .tuple [.int (i : Nat), x]) xs
theorem numbered_len (xs : List PyData) : (numbered xs).length = xs.length := by simp [numbered]
theorem numbered_get {xs : List PyData} {i : Nat} {d : PyData} (h : (numbered xs)[i]? = some d) : ∃ x, xs[i]? = some x ∧ d = .tuple [.int (i : Nat), x] := by
  unfold numbered at h
  rw [List.getElem?_zipWith] at h
  cases e : xs[i]? with
  | none =>
    rw [e] at h
    cases z : (List.range xs.length)[i]? <;> rw [z] at h <;> cases h
  | some x =>
    have hi : i < xs.length := (List.getElem?_eq_some_iff.mp e).1
    rw [e, List.getElem?_range hi] at h
    exact ⟨x, rfl, (Option.some.inj h).symm⟩
theorem numbered_at {xs : List PyData} {i : Nat} {x : PyData} (h : xs[i]? = some x) : (numbered xs)[i]? = some (.tuple [.int (i : Nat), x]) := by
  have hi : i < xs.length := (List.getElem?_eq_some_iff.mp h).1
  unfold numbered
  rw [List.getElem?_zipWith, h, List.getElem?_range hi]
theorem ei_enumT {K : PySem.W.Frag} {π : Option Pn} {σ : L2.St} {H0 : Hp} {tl : TA} {xs : List PyData} (h : EvL K π tl σ H0 (· = [.tuple xs])) : EvI K π (iEnumT K tl) σ H0 (· = numbered xs) := fun H1 o R q => h H1 o _ fun vs ds N H2 e s kd => by
  subst e
  obtain ⟨v, rfl, hv⟩ := dps1 kd
  obtain ⟨a, us, rfl, hs, hd⟩ := dp_tup hv
  have len := dps_len hd
  refine ⟨a, us, rfl, ex_t (s.okk o).ex hs, q _ (numbered xs) N H2 rfl s ⟨fun i M H e1 oM hi => ?_, fun M H e1 oM => ?_, fun i M H x H' e1 oM hi hy => ?_⟩⟩
  · rw [numbered_len] at hi
    obtain ⟨y, ey, _⟩ := dps_get hd (List.getElem?_eq_getElem hi)
    exact ⟨us, y, ex_t (e1.trans oM.ex) hs, ey⟩
  · exact ⟨us, ex_t (e1.trans oM.ex) hs, by rw [len, numbered_len]⟩
  · rw [numbered_len] at hi
    obtain ⟨T, u, rfl, hT, rfl, hx⟩ := hy
    have z := hx us (ex_t (e1.trans oM.ex) hs)
    have g := List.getElem?_eq_getElem hi
    obtain ⟨y, ey, ky⟩ := dps_get hd g
    rw [z] at ey
    cases ey
    have s4 := oM.new hT (Ex.new hT) (upd_same (o := .tup [.int (i : Nat), u]))
    exact ⟨_, _, numbered_at g, s4, .tup (st_of upd_same) (.cons (.int _) (.cons (dp_ex (e1.trans s4.ex) ky) .nil))⟩
end Dl

set_option maxRecDepth 100000
set_option maxHeartbeats 4000000
/-! errors of own classes, each straight over a built-in one, kept as values: the storing of fields, the making by place and by name -/
namespace Ee
open PySem PySem.W PySem.Calls PyProof.Rows PySem.HandSPX
open Builtin Builtin.ObjectAttr
section
variable {prog : Program} {w : World} {A : Around} {E : Value → Shared → Prop} {R : Result → Shared → Prop} {hp : Heap} {gs : Array GenState} {dr : Drawn} {tk0 : Nat} {os : OsState} {Bn : String} {mB : List Value} {K : Frag}

/-- the first field: the error gets its dict -/
theorem field_first {nm : Str} {tk : Tok} {u : Value} {e C : Addr} {fv : Array Value} {cd : ClassData} (SF : StoreFacts Bn mB "object.__setattr__" "object")
    (KX : K.In hp) (he : hp.get? e = some { cls := .ref C, data := .fields fv }) (hcd : clsIn K C = some cd) (hm : cd.mro = .ref C :: mB) (hh : cd.hasDict = true) (no : findIn K (.ref C) nm = some none)
    (k : ∀ h' tk' dx, (∀ b o, b ≠ e → hp.get? b = some o → h'.get? b = some o) → hp.objs.size ≤ dx → dx ≠ e → h'.get? e = some { cls := .ref C, dict := some dx, data := .fields fv } →
      h'.Ns1 dx (fun z => if z = nm then some u else none) → R (.ok (.ret .none)) ⟨h', gs, dr, tk', os⟩) :
    codeAny (model prog w) A (.call (.builtin "object.__setattr__") ⟨[.ref e, .str nm tk, u], []⟩) R ⟨hp, gs, dr, tk0, os⟩ := by
  have J : InstAt hp e { cls := .ref C, data := .fields fv } C none := ⟨he, rfl, rfl, trivial⟩
  have ob : cd.mro.contains (.type "object") = true := by
    rw [hm, List.contains_cons, SF.hasOwner, Bool.or_true]
  have en : e ≠ hp.objs.size := Nat.ne_of_lt (Heap.lt_size he)
  have sub : Looks (model prog w) hp (isInstance (.ref e) (.type "object")) true :=
    J.type.andThen (looks_mroIn KX (by unfold mroIn; rw [hcd, Option.bind_some, if_neg (by rw [hm]; simp), ob]))
  refine codeAny_call_builtin SF.slot.plain SF.entry (@check_slot (model prog w) _ _ ⟨hp, gs, dr, tk0, os⟩ "object.__setattr__" "object" "__setattr__" (.ref e) [.str nm tk, u] [] _ SF.kind SF.split sub (SF.args (.ref e) (.str nm tk) u) ?_)
  have lm : Looks (model prog w) hp (mroOf (.ref C)) cd.mro := (looks_clsIn KX hcd).andThen .now
  have lt : Looks (model prog w) hp (storeTaker? none) none := .now
  have lc : Looks (model prog w) hp (classData C) cd := looks_clsIn KX hcd
  rw [osa_eq, refuse_eq]
  refine wpAny_bind (wpAny_bind (J.type.at (wpAny_bind (lm.at ?_))))
  rw [hm, refuseLoop_ref, SF.passes]
  refine wpAny_pure (wpAny_bind (J.type.at (wpAny_bind ((looks_findIn KX no).at (wpAny_bind (lt.at ?_))))))
  show wpAny _ _ (storeInOwnDict (.ref e) (.ref C) (.str nm tk) nm u false) _ _ _
  obtain ⟨c1, c2, c3, c4, c5, c6, c7, c8, c9, c10, c11⟩ := cd
  dsimp only at hh
  subst hh
  unfold storeInOwnDict ownDictForStores
  repeat (first | with_reducible refine store_in_new ?_ ?_ | with_reducible refine wpAny_loadPart_at he ?_ | with_reducible refine lc.at ?_ | wp_step)
  · exact ⟨_, #[], _, (Heap.get?_update_ne _ _ _ _ en.symm).trans (Heap.get?_push_at rfl rfl), rfl, fun z hz => absurd hz (by simp), fun _ => rfl⟩
  · intro h' tk' hn' hs
    have he₁ : (hp.push { cls := .type "dict", data := .dict #[] }).get? e = some { cls := .ref C, data := .fields fv } := Heap.get?_push_of_some _ he
    refine k h' tk' hp.objs.size (fun b o hb ho => ?_) (Nat.le_refl _) en.symm ?_ hn'
    · exact (hs.2 b (Nat.ne_of_lt (Heap.lt_size ho))).trans ((Heap.get?_update_ne _ _ _ _ hb).trans (Heap.get?_push_of_some _ ho))
    · exact (hs.2 e en).trans (Heap.get?_update_self _ he₁ rfl)

/-- a further field -/
theorem field_more {nm : Str} {tk : Tok} {u : Value} {e C dx : Addr} {fv : Array Value} {cd : ClassData} {m0 : Str → Option Value} {nl : List Str} (SF : StoreFacts Bn mB "object.__setattr__" "object")
    (KX : K.In hp) (he : hp.get? e = some { cls := .ref C, dict := some dx, data := .fields fv }) (hns : hp.Ns1 dx m0) (hw : Within m0 nl) (hz : nl.length ≤ 1000) (hcd : clsIn K C = some cd) (hm : cd.mro = .ref C :: mB) (hh : cd.hasDict = true) (no : findIn K (.ref C) nm = some none)
    (k : ∀ h' tk', (∀ b o, b ≠ dx → hp.get? b = some o → h'.get? b = some o) → h'.Ns1 dx (fun z => if z = nm then some u else m0 z) → R (.ok (.ret .none)) ⟨h', gs, dr, tk', os⟩) :
    codeAny (model prog w) A (.call (.builtin "object.__setattr__") ⟨[.ref e, .str nm tk, u], []⟩) R ⟨hp, gs, dr, tk0, os⟩ := by
  obtain ⟨oD, esD, epD, hoD, hdD, _⟩ := hns.count hw
  have J : InstAt hp e { cls := .ref C, dict := some dx, data := .fields fv } C (some oD) := ⟨he, rfl, rfl, hoD⟩
  have ob : cd.mro.contains (.type "object") = true := by
    rw [hm, List.contains_cons, SF.hasOwner, Bool.or_true]
  have sub : Looks (model prog w) hp (isInstance (.ref e) (.type "object")) true :=
    J.type.andThen (looks_mroIn KX (by unfold mroIn; rw [hcd, Option.bind_some, if_neg (by rw [hm]; simp), ob]))
  refine codeAny_call_builtin SF.slot.plain SF.entry (@check_slot (model prog w) _ _ ⟨hp, gs, dr, tk0, os⟩ "object.__setattr__" "object" "__setattr__" (.ref e) [.str nm tk, u] [] _ SF.kind SF.split sub (SF.args (.ref e) (.str nm tk) u) ?_)
  have lm : Looks (model prog w) hp (mroOf (.ref C)) cd.mro := (looks_clsIn KX hcd).andThen .now
  have lt : Looks (model prog w) hp (storeTaker? none) none := .now
  have lc : Looks (model prog w) hp (classData C) cd := looks_clsIn KX hcd
  rw [osa_eq, refuse_eq]
  refine wpAny_bind (wpAny_bind (J.type.at (wpAny_bind (lm.at ?_))))
  rw [hm, refuseLoop_ref, SF.passes]
  refine wpAny_pure (wpAny_bind (J.type.at (wpAny_bind ((looks_findIn KX no).at (wpAny_bind (lt.at ?_))))))
  show wpAny _ _ (storeInOwnDict (.ref e) (.ref C) (.str nm tk) nm u false) _ _ _
  obtain ⟨c1, c2, c3, c4, c5, c6, c7, c8, c9, c10, c11⟩ := cd
  dsimp only at hh
  subst hh
  unfold storeInOwnDict ownDictForStores
  repeat (first | with_reducible refine PySem.OEX.store_in_old hns hw hz ?_ | with_reducible refine wpAny_loadPart_at he ?_ | with_reducible refine lc.at ?_ | wp_step)
  intro h' tk' hn' hs
  exact k h' tk' (fun b o hb ho => (hs.2 b hb).trans ho) hn'
end

/-! ### the making: by place, by name -/
section
variable {M : Model} {A : Around} {E : Value → Shared → Prop} {h : Heap} {gs : Array GenState} {dr : Drawn} {tk0 : Nat} {os : OsState}
variable {nm q : Str} {C N : Addr} {bs mB : List Value} {hd : Bool} {sn : List Str} {sub : List Value} {ab : Bool} {col : Option Bool} {dd : Option Addr} {k0 k1 k2 k3 k5 : Option Value} {Bn newId initId : String}
theorem new_checked (F : ExcBaseFacts Bn newId initId mB) {rest : List Value} {kws : List (Str × Value)} {Q : Unit → Shared → Prop} (hC : h.get? C = some (excClassObj nm q C N bs mB hd sn sub ab col dd k0 k1 k2 k3 k5 newId))
    (k : Q () ⟨h, gs, dr, tk0, os⟩) : wpAny M A (checkBuiltinCall newId ⟨.ref C :: rest, kws⟩) Q E ⟨h, gs, dr, tk0, os⟩ := by
  have has : (Value.ref C :: mB).contains (.type Bn) = true := by rw [List.contains_cons, F.hasB, Bool.or_true]
  have hshort := F.noStar
  simp only [checkBuiltinCall, F.newKind, F.newSplit, F.newRow]
  repeat (first | refine wpAny_loadPart_at hC ?_ | (refine wpAny_isSubtype_exc hC ?_; rw [has]) | refine wpAny_staticBase_exc hC ?_ | refine wpAny_madeBy_exc hC ?_ | simp only [bne_self_eq_false, Bool.false_eq_true, if_false] | wp_step)
  exact k
end
section
variable {prog : Program} {w : World} {A : Around} {E : Value → Shared → Prop} {R : Result → Shared → Prop} {h : Heap} {gs : Array GenState} {dr : Drawn} {tk0 : Nat} {os : OsState}
variable {nm q : Str} {C N : Addr} {bs mB : List Value} {hd : Bool} {sn : List Str} {sub : List Value} {ab : Bool} {col : Option Bool} {dd : Option Addr} {k0 k1 k2 k3 k5 : Option Value} {Bn newId initId : String}
theorem new_run (F : ExcBaseFacts Bn newId initId mB) {rest : List Value} {kws : List (Str × Value)} (hC : h.get? C = some (excClassObj nm q C N bs mB hd sn sub ab col dd k0 k1 k2 k3 k5 newId)) (hrest : rest.length ≤ sizeLine)
    (k : R (.ok (.ret (.ref (h.objs.size + 1)))) ⟨(h.push (kdv_tup rest)).push (excO C h.objs.size), gs, dr, tk0, os⟩) :
    codeAny (model prog w) A (.builtin newId ⟨.ref C :: rest, kws⟩) R ⟨h, gs, dr, tk0, os⟩ := by
  have hends := F.ends
  have has : (Value.ref C :: mB).contains (.type Bn) = true := by rw [List.contains_cons, F.hasB, Bool.or_true]
  have hasA : (Value.ref C :: mB).contains (.type "AttributeError") = false := by rw [List.contains_cons, F.noAttr]; rfl
  have hasN : (Value.ref C :: mB).contains (.type "NameError") = false := by rw [List.contains_cons, F.noName]; rfl
  refine codeAny_builtinAt F.entry ?_
  unfold Builtin.«BaseException.__new__»
  refine PySem.wpAt_bind ?_
  show PySem.wpAt _ _ _ (stack >>= _) _ _ _
  refine PySem.wpAt_bind (PySem.wpAt_stack fun p below => PySem.wpAt_of_wpAny ?_)
  wp_walk
  refine PySem.wpAt_of_wpAny ?_
  rw [F.owner]
  repeat (first | with_reducible refine wpAny_madeHere_exc F.canon hC ?_ | with_reducible refine wpAny_loadPart_at hC ?_ | (with_reducible refine wpAny_isSubtype_exc hC ?_; first | rw [has] | rw [hasA] | rw [hasN]) | wp_step)
  show R _ _
  rw [Heap.size_push]
  exact k
theorem typecall (F : ExcBaseFacts Bn newId initId mB) {rest : List Value} {kws : List (Str × Value)} {fI : Addr} {Q : Fin → Shared → Prop} (hC : h.get? C = some (excClassObj nm q C N bs mB hd sn sub ab col dd k0 k1 k2 k3 k5 newId))
    (hi : Looks (model prog w) h (typeLookup (.ref C) "__init__") (some (.ref fI))) (hb : ∀ self, Looks (model prog w) h (bindSpecial (.ref fI) self) (.ref fI, [self])) (hrest : rest.length ≤ sizeLine)
    (run : codeAny (model prog w) A (.call (.ref fI) ⟨.ref (h.objs.size + 1) :: rest, kws⟩)
      (fun r s' => match r with | .ok (.ret v) => v = .none ∧ Q (.done (.ret (.ref (h.objs.size + 1)))) s' | .ok _ => False | .error e => E e s') ⟨(h.push (kdv_tup rest)).push (excO C h.objs.size), gs, dr, tk0, os⟩) :
    wpAny (model prog w) A (Builtin.«type.__call__» ⟨.ref C :: rest, kws⟩) Q E ⟨h, gs, dr, tk0, os⟩ := by
  repeat (first | with_reducible refine wpAny_loadPart_at hC ?_ | with_reducible refine wpAny_madeBy_exc hC ?_ | wp_step)
  refine codeAny_call_builtin_code (Code.quiet_builtin _ F.quiet) (new_checked F hC ?_)
  refine new_run F hC hrest ?_
  show wpAny _ _ _ _ _ _
  have kp : ∀ b o, h.get? b = some o → ((h.push (kdv_tup rest)).push (excO C h.objs.size)).get? b = some o := fun b o e => Heap.get?_push_of_some _ (Heap.get?_push_of_some _ e)
  have hC₁ := kp _ _ hC
  have hat : ((h.push (kdv_tup rest)).push (excO C h.objs.size)).get? (h.objs.size + 1) = some (excO C h.objs.size) := by heap_get
  have hself : (Value.ref C :: mB).contains (.ref C) = true := by simp
  have i1 := hi.keeps kp
  have b1 := (hb (.ref (h.objs.size + 1))).keeps kp
  unfold isInstance
  repeat (first | with_reducible refine wpAny_loadPart_at hat ?_ | (with_reducible refine wpAny_isSubtype_exc hC₁ ?_; rw [hself]) | wp_step)
  show wpAny _ _ (typeLookup (.ref C) _) _ _ _
  refine i1.at ?_
  refine wpAny_holding (wpAny_bind (b1.at ?_))
  refine wpAny_bind (wpAny_call (codeAny_mono run fun r s' z => ?_))
  rcases r with e | (v | _ | _ | _) <;> first | exact z | exact z.elim | skip
  obtain ⟨rfl, z⟩ := z
  first
    | exact wpAny_pure (wpAny_pure z)
    | (wp_walk; exact z)
theorem call_checked {M : Model} {rest : List Value} {kws : List (Str × Value)} {Q : Unit → Shared → Prop} (hC : h.get? C = some (excClassObj nm q C N bs mB hd sn sub ab col dd k0 k1 k2 k3 k5 newId)) (k : Q () ⟨h, gs, dr, tk0, os⟩) :
    wpAny M A (checkBuiltinCall "type.__call__" ⟨.ref C :: rest, kws⟩) Q E ⟨h, gs, dr, tk0, os⟩ := by
  have f3 := tc_sub
  have hTy : (⟨h, gs, dr, tk0, os⟩ : Shared).TypeIs (.ref C) "type" := ⟨_, hC, rfl⟩
  simp only [checkBuiltinCall, tc_kind, tc_split]
  repeat (any_goals (first | assumption | with_reducible refine wpAny_loadPart_at hC ?_ | with_reducible refine wpAny_onRaise ?_ | with_reducible refine wpAny_map ?_ | wp_step))
theorem made (F : ExcBaseFacts Bn newId initId mB) {rest : List Value} {kws : List (Str × Value)} {fI : Addr} (hC : h.get? C = some (excClassObj nm q C N bs mB hd sn sub ab col dd k0 k1 k2 k3 k5 newId))
    (hi : Looks (model prog w) h (typeLookup (.ref C) "__init__") (some (.ref fI))) (hb : ∀ self, Looks (model prog w) h (bindSpecial (.ref fI) self) (.ref fI, [self])) (hrest : rest.length ≤ sizeLine)
    (run : codeAny (model prog w) (A.under (.builtin "type.__call__" ⟨.ref C :: rest, kws⟩)) (.call (.ref fI) ⟨.ref (h.objs.size + 1) :: rest, kws⟩) (InitBack (h.objs.size + 1) R) ⟨(h.push (kdv_tup rest)).push (excO C h.objs.size), gs, dr, tk0, os⟩) :
    codeAny (model prog w) A (.call (.ref C) ⟨rest, kws⟩) R ⟨h, gs, dr, tk0, os⟩ := by
  have f1 := tc_lookup
  have f2 := tc_bind (.ref C)
  have hTy : (⟨h, gs, dr, tk0, os⟩ : Shared).TypeIs (.ref C) "type" := ⟨_, hC, rfl⟩
  refine codeAny_of_tree ?_
  show wpAny _ _ (callAny (.ref C) _) _ _ _
  repeat (any_goals (first | assumption | with_reducible refine wpAny_loadPart_at hC ?_ | wp_step))
  refine ⟨rfl, ?_⟩
  refine codeAny_call_builtin_at (Code.quiet_builtin _ (by decide +kernel)) entry_typeCall (call_checked hC (typecall F hC hi hb hrest ?_))
  refine codeAny_mono run fun r s' z => ?_
  rcases r with e | (v | _ | _ | _) <;> exact z
end
end Ee

set_option maxRecDepth 100000
set_option maxHeartbeats 4000000
/-! errors kept as values, at the hand layer's level -/
namespace Ee
open PySem PySem.Spec PyProof.Rows L2 Gd Dl
open Evl (Ex Ex.refl Ex.trans Ex.new ex_l ex_t sq_of st_of fresh_back)

/-- what the written part says of an error class that stands straight over a built-in one -/
structure ErrC (K : PySem.W.Frag) (C : Addr) : Prop where
  cls : ∃ nm q N bs sn sub ab col dd k0 k1 k2 k3 k5 Bn newId initId mB, K.lookup C = some (excClassObj nm q C N bs mB true sn sub ab col dd k0 k1 k2 k3 k5 newId) ∧ ExcBaseFacts Bn newId initId mB ∧ StoreFacts Bn mB "object.__setattr__" "object"
  sa : PySem.W.findIn K (.ref C) "__setattr__" = some (some (.builtin "object.__setattr__"))
  ga : PySem.W.findIn K (.ref C) "__getattribute__" = some (some (.builtin "BaseException.__getattribute__"))
  gg : PySem.W.findIn K (.ref C) "__getattr__" = some none
  exC : PySem.W.subIn K (.ref C) (.type "BaseException") = some true
  kC : PySem.W.keepIn K (.ref C) = true
  hdC : PySem.W.hasDictIn K C = true
  ca : PySem.W.findIn K (.ref C) "__class__" = some (some (.builtin "object.__class__"))
  gn : PySem.W.specialIn K (.builtin "object.__class__") "__get__" = some (some (.builtin "getset_descriptor.__get__"))
  tk : PySem.W.takesIn K (.builtin "object.__class__") = some true
  mo : PySem.W.mroIn K C (.type "object") = some true

section
variable {X : Cx} {pins : List (Addr × Obj)} {σ : L2.St} {H : Hp} {s : Shared} {a C dx : Addr} {f : Str} {y : V} {u : Value} {fs : List (Str × V)} {Q : Unit → Shared → Prop} {E : Value → Shared → Prop} {A : Around}
theorem put_first (T : ErrC X.K C) (I : Inv X pins σ H s) (e : H a = some (exo a C none)) (no : PySem.W.findIn X.K (.ref C) f = some none) (ry : RelV y u)
    (k : ∀ dx s', H dx = none → dx ≠ a → Inv X pins σ (upd (upd H dx (exd dx [(f, y)])) a (exo a C (some dx))) s' → Q () s') : wpAny (model X.prog X.w) A (setAttr (.ref a) f u) Q E s := by
  obtain ⟨nm, q, N, bs, sn, sub, ab, col, dd, k0, k1, k2, k3, k5, Bn, newId, initId, mB, hC, FB, SF⟩ := T.cls
  have hcl : PySem.W.clsIn X.K C = some { name := nm, bases := bs, mro := .ref C :: mB, ns := N, qualname := q, hasDict := true, slotNames := sn, subclasses := sub, abstract := ab, collection := col, hasDel := false } := by unfold PySem.W.clsIn; rw [hC] <;> rfl
  obtain ⟨t1, ho⟩ := exo_at I.hok e
  obtain ⟨hp, gs, dr, t, os⟩ := s
  refine PySem.W.set_plain I.kIn (ox := { cls := .ref C, dict := none, data := .fields #[.ref t1, .none, .none, .none, .bool false, .none] }) (od := none) ⟨ho, rfl, rfl, trivial⟩ T.sa ?_
  refine field_first SF I.kIn ho hcl rfl rfl no (fun h' tk' dx kp dn dne hx hn => ?_)
  have hnd : H dx = none := I.hok.fresh dn
  have nd : ∀ {b : Addr} {o : Obj}, hp.get? b = some o → b ≠ dx := fun {b o} z => Nat.ne_of_lt (Nat.lt_of_lt_of_le (Heap.lt_size z) dn)
  have na : ∀ {b : Addr}, H b = none → b ≠ a := fun {b} n z => by
    rw [z, e] at n
    cases n
  have un : Un X.fs [] H (upd (upd H dx (exd dx [(f, y)])) a (exo a C (some dx))) hp h' := {
    keep := fun b o z n _ _ => kp b o (na n) z
    slot := fun b o z n _ _ => ⟨o.slots, kp b o (na n) z⟩
    free := fun b o z n _ => by rw [upd_ne (na n), upd_ne (nd z)]; exact n
    there := fun b o z _ => by
      by_cases hb : b = a
      · exact ⟨_, by rw [hb]; exact hx⟩
      · exact ⟨o, kp b o hb z⟩
    tups := fun b xs z => by rw [upd_ne (at_ne e z exo_tup), upd_ne (ne_of_none z hnd)]; exact z
    frzs := fun b o v z => by rw [upd_ne (at_ne e z exo_frz), upd_ne (ne_of_none z hnd)]; exact z
    tbls := fun b ps z => ⟨#[], by rw [upd_ne (at_ne e z exo_tbl), upd_ne (ne_of_none z hnd), z]; simp⟩ }
  refine k dx _ hnd dne (I.un (t' := tk') un fun b o z => ?_)
  by_cases hb : b = a
  · subst hb
    rw [upd_same] at z
    cases z
    exact exo_ok hx
  · rw [upd_ne hb] at z
    by_cases hd : b = dx
    · subst hd
      rw [upd_same] at z
      cases z
      exact exd_ok hn (relO_put (fs := []) ry fun g => True.intro)
    · rw [upd_ne hd] at z
      refine (I.hok b o z).stay (fun c v hc r => kp c v ?_ r) (fun c hc => ?_) (fun c xs hc => ?_)
      · rcases hc with hc | hc
        · rw [hc]
          exact hb
        · exact at_ne e hc exo_own
      · rw [upd_ne (at_ne e hc exo_own), upd_ne (ne_of_none hc hnd)]
        exact hc
      · rw [upd_ne (at_ne e hc exo_tup), upd_ne (ne_of_none hc hnd)]
        exact hc
theorem put_more (T : ErrC X.K C) (I : Inv X pins σ H s) (e : H a = some (exo a C (some dx))) (ed : H dx = some (exd dx fs)) (hl : fs.length ≤ 900) (no : PySem.W.findIn X.K (.ref C) f = some none) (ry : RelV y u)
    (k : ∀ s', Inv X pins σ (upd H dx (exd dx ((f, y) :: fs))) s' → Q () s') : wpAny (model X.prog X.w) A (setAttr (.ref a) f u) Q E s := by
  obtain ⟨nm, q, N, bs, sn, sub, ab, col, dd, k0, k1, k2, k3, k5, Bn, newId, initId, mB, hC, FB, SF⟩ := T.cls
  have hcl : PySem.W.clsIn X.K C = some { name := nm, bases := bs, mro := .ref C :: mB, ns := N, qualname := q, hasDict := true, slotNames := sn, subclasses := sub, abstract := ab, collection := col, hasDel := false } := by unfold PySem.W.clsIn; rw [hC] <;> rfl
  obtain ⟨t1, ho⟩ := exo_at I.hok e
  obtain ⟨mA, hns, rel⟩ := exd_at I.hok ed
  have hw := within_of rel
  obtain ⟨hp, gs, dr, t, os⟩ := s
  obtain ⟨oD, _, _, hoD, _, _⟩ := hns.count hw
  refine PySem.W.set_plain I.kIn (ox := { cls := .ref C, dict := some dx, data := .fields #[.ref t1, .none, .none, .none, .bool false, .none] }) (od := some oD) ⟨ho, rfl, rfl, hoD⟩ T.sa ?_
  refine field_more SF I.kIn ho hns hw (by rw [List.length_map]; omega) hcl rfl rfl no (fun h' tk' kp hn => ?_)
  have hd : ∃ o, h'.get? dx = some o := by
    obtain ⟨o, _, _, e', _⟩ := hn
    exact ⟨o, e'⟩
  exact k _ (I.write (t' := tk') (x := dx) (e := dx) (o := exd dx ((f, y) :: fs)) (by rw [ed]; exact True.intro) (.inl rfl) kp hd (exd_ok hn (relO_put ry rel)))
end

/-! ### readings and rules -/
/-- self.f = e, self an error that is being made -/
def tPut (K : PySem.W.Frag) (f : Str) (to te : TE) : TS := fun D σ H => te σ H fun y H1 => to σ H1 fun x H2 => ∃ a C : Addr, x = .ref a ∧ ErrC K C ∧ PySem.W.findIn K (.ref C) f = some none ∧
  ((H2 a = some (exo a C none) ∧ ∀ dx, H2 dx = none → dx ≠ a → D.nx σ (upd (upd H2 dx (exd dx [(f, y)])) a (exo a C (some dx)))) ∨
    ∃ (dx : Addr) (fs : List (Str × V)), H2 a = some (exo a C (some dx)) ∧ H2 dx = some (exd dx fs) ∧ fs.length ≤ 900 ∧ D.nx σ (upd H2 dx (exd dx ((f, y) :: fs))))
/-- C(..), its own __init__ keeping sp: what stands at a place, what goes by name -/
def tErr (C : Addr) (n m : Nat) (sp : Sp) (gV : List V → List V → List V) (t tk : TA) : TE := fun σ H Q => t σ H fun vs H1 => tk σ H1 fun zs H2 => vs.length = n ∧ zs.length = m ∧
  ∀ a, H2 a = none → sp (gV (.ref a :: vs) zs) (upd H2 a (exo a C none)) (fun v H3 => v = .non ∧ Q (.ref a) H3) E0
/-- e.f -/
def tFld (K : PySem.W.Frag) (f : Str) (te : TE) : TE := fun σ H Q => te σ H fun x H1 => ∃ (a C dx : Addr) (fs : List (Str × V)) (v : V), x = .ref a ∧ H1 a = some (exo a C (some dx)) ∧ H1 dx = some (exd dx fs) ∧ ErrC K C ∧ PySem.W.findIn K (.ref C) f = some none ∧ fs.lookup f = some v ∧ Q v H1
/-- isinstance(e, T) -/
def rIsErr (K : PySem.W.Frag) : List V → Hp → VK → Prop := fun xs H Q => ∃ (a C : Addr) (d : Option Addr) (c : V) (cv : Value) (b : Bool), xs = [.ref a, c] ∧ H a = some (exo a C d) ∧ (∀ dx, d = some dx → ∃ fs, H dx = some (exd dx fs)) ∧ ErrC K C ∧
  ClsV c cv ∧ PySem.W.kitOne K (.ref C) cv = some b ∧ Q (.bl b) H
section
variable {X : Cx} {o e : Expr} {es : List Expr} {kws : List Keyword} {to te : TE} {t tk : TA} {f x : Str} {p p' pos : Pos} {k n : Nat} {C fI : Addr} {fd : FuncData} {ps ks : List Str} {sp : Sp} {g : List Value → List Value → List Value} {gV : List V → List V → List V}
theorem ps_put (ho : PE X o to) (he : PE X e te) (hs : swapsWith e (some (.Attribute o f p')) pos.line X.env = pure false := by rfl) : PS X (.Assign [.Attribute o f p'] e pos) (tPut X.K f to te) := by
  constructor
  intro pins s σ H D I h
  refine plainObj_wpAny_Assign_Attribute (thn (he.run pins s σ H _ I h) fun v s1 ⟨y, H1, I1, r1, q1⟩ => thn (ho.run pins s1 σ H1 _ I1 q1) fun u s2 ⟨z, H2, I2, r2, a, C, ex, T, no, q⟩ => ?_) hs
  subst ex
  obtain rfl : u = Value.ref a := r2
  rcases q with ⟨ea, q⟩ | ⟨dx, fs, ea, ed, hl, q⟩
  · exact put_first T I2 ea no r1 fun dx s' n1 n2 J => ⟨σ, _, J, q dx n1 n2⟩
  · exact put_more T I2 ea ed hl no r1 fun s' J => ⟨σ, _, J, q⟩
theorem kbn_all (hb : L2.Binds X.K fd ps []) (hn : ps.length = n) : KBn X.K fd ps n [] (fun us _ => us) (fun vs _ => vs) :=
  ⟨fun s us ws KX l1 l2 => by
    have q := hb s us KX (by rw [List.append_nil, l1, hn])
    rw [List.append_nil] at q
    rw [List.zip_nil_left]
    exact q, fun r _ => r⟩
theorem err_run {pins : List (Addr × Obj)} {σ : L2.St} {H : Hp} {s : Shared} {Q : VK} {us ws : List Value} {vs zs : List V} (T : ErrC X.K C) (iC : PySem.W.findIn X.K (.ref C) "__init__" = some (some (.ref fI))) (tI : PySem.W.typeIn X.K (.ref fI) = some (.type "function"))
    (F : FnOk X.prog X.w X.K X.mg X.base CX0 k fI fd ps sp) (hr : Room (k + 1) X.A) (hb : KBn X.K fd ps (n + 1) ks g gV) (I : Inv X pins σ H s) (r : Vals vs us) (rz : Vals zs ws) (l1 : vs.length = n) (l2 : zs.length = ks.length) (hz : n ≤ 1000)
    (h : ∀ a, H a = none → sp (gV (.ref a :: vs) zs) (upd H a (exo a C none)) (fun v H2 => v = .non ∧ Q (.ref a) H2) E0) : wpAny (model X.prog X.w) X.A (call (.ref C) us (ks.zip ws)) (EP X pins σ Q) X.xe s := by
  obtain ⟨nm, q, N, bs, sn, sub, ab, col, dd, k0, k1, k2, k3, k5, Bn, newId, initId, mB, hC, FB, SF⟩ := T.cls
  obtain ⟨hp, gs, dr, tt, os⟩ := s
  have hsz : hp.objs.size ≤ hp.objs.size + 1 := Nat.le_succ _
  have hq := h (hp.objs.size + 1) (I.hok.fresh hsz)
  have kk : ∀ b o, hp.get? b = some o → ((hp.push (PySem.W.kdv_tup us)).push (PySem.HandSPX.excO C hp.objs.size)).get? b = some o := fun b o e => Heap.get?_push_of_some _ (Heap.get?_push_of_some _ e)
  have hat : ((hp.push (PySem.W.kdv_tup us)).push (PySem.HandSPX.excO C hp.objs.size)).get? (hp.objs.size + 1) = some (PySem.HandSPX.excO C hp.objs.size) := by heap_get
  have I2 : Inv X pins σ (upd H (hp.objs.size + 1) (exo (hp.objs.size + 1) C none)) ⟨(hp.push (PySem.W.kdv_tup us)).push (PySem.HandSPX.excO C hp.objs.size), gs, dr, tt, os⟩ :=
    I.laid (t' := tt) (a := hp.objs.size + 1) (o := exo (hp.objs.size + 1) C none) (h' := (hp.push (PySem.W.kdv_tup us)).push (PySem.HandSPX.excO C hp.objs.size)) kk hsz (exo_ok hat)
  have r1 : Vals (V.ref (hp.objs.size + 1) :: vs) (Value.ref (hp.objs.size + 1) :: us) := .cons rfl r
  have n1 : (Value.ref (hp.objs.size + 1) :: us).length = n + 1 := by rw [List.length_cons, ← r.length, l1]
  have hus : us.length ≤ sizeLine := by
    rw [← r.length, l1, sizeLine_eq]
    omega
  refine wpAny_call (made FB (I.kIn _ _ hC) (PySem.W.looks_findIn I.kIn iC) (fun self => PySem.W.bind_fn I.kIn self tI) hus
    (codeAny_mono (F.run _ X.stack _ _ ⟨Value.ref (hp.objs.size + 1) :: us, ks.zip ws⟩ (g (Value.ref (hp.objs.size + 1) :: us) ws) _ _ E0 (hr.make C us (ks.zip ws)) (I2.env0.make C us (ks.zip ws))
      (hb.to _ (Value.ref (hp.objs.size + 1) :: us) ws I2.kIn n1 (rz.length.symm.trans l2)) (hb.rel r1 rz) hq) fun r s' hq' => ?_))
  cases r with
  | error er => exact hq'.elim
  | ok fl =>
    cases fl with
    | ret u =>
      obtain ⟨v, H', I3, rv, ev, q3⟩ := I2.after hq'
      subst ev
      exact ⟨rv, ⟨V.ref (hp.objs.size + 1), H', I3, rfl, q3⟩⟩
    | next => exact False.elim hq'
    | brk => exact False.elim hq'
    | cont => exact False.elim hq'
theorem pe_err (T : ErrC X.K C) (iC : PySem.W.findIn X.K (.ref C) "__init__" = some (some (.ref fI))) (tI : PySem.W.typeIn X.K (.ref fI) = some (.type "function")) (F : FnOk X.prog X.w X.K X.mg X.base CX0 k fI fd ps sp) (hr : Room (k + 1) X.A)
    (hb : KBn X.K fd ps (n + 1) [] g gV) (hz : n ≤ 1000) (hg : Gl X x) (hm : X.mg x = some (.ref C)) (ha : PA X (e :: es) t) (hdb : (x == ("__debug__" : Str)) = false := by decide)
    (he : starEach (e :: es) X.env = (false, eval e X.env) :: starEach es X.env := by rfl) (hpl : (backTo pos (starEach es X.env)).any (·.1) = false := by rfl) : PE X (.Call (.Name x p) (e :: es) [] pos) (tErr C n 0 sp gV t tNil) := by
  constructor
  intro pins s σ H Q I h
  refine wpAny_Call_Name_kw (ld_glob I hg hm ?_ hdb)
  refine PySem.W.callWith_K (h₀ := X.base) I.ok.mod.kin T.kC (thn (ha.run pos pins s σ H _ I h) fun us s1 ⟨vs, H1, I1, r, l1, l2, q⟩ => ⟨I1.kIn, ?_⟩) he hpl
  exact err_run (ks := []) (ws := []) (zs := []) T iC tI F hr hb I1 r .nil l1 rfl hz q
theorem pe_err0 (T : ErrC X.K C) (iC : PySem.W.findIn X.K (.ref C) "__init__" = some (some (.ref fI))) (tI : PySem.W.typeIn X.K (.ref fI) = some (.type "function")) (F : FnOk X.prog X.w X.K X.mg X.base CX0 k fI fd ps sp) (hr : Room (k + 1) X.A)
    (hb : KBn X.K fd ps (0 + 1) [] g gV) (hg : Gl X x) (hm : X.mg x = some (.ref C)) (hdb : (x == ("__debug__" : Str)) = false := by decide) : PE X (.Call (.Name x p) [] [] pos) (tErr C 0 0 sp gV tNil tNil) := by
  constructor
  intro pins s σ H Q I h
  refine wpAny_Call_Name_kw (ld_glob I hg hm ?_ hdb)
  obtain ⟨l1, l2, q⟩ := h
  exact PySem.W.callWith_K0 I.kIn T.kC (err_run (us := []) (ks := []) (ws := []) (zs := []) T iC tI F hr hb I .nil .nil l1 rfl (Nat.zero_le _) q)
theorem pe_errk (T : ErrC X.K C) (iC : PySem.W.findIn X.K (.ref C) "__init__" = some (some (.ref fI))) (tI : PySem.W.typeIn X.K (.ref fI) = some (.type "function")) (F : FnOk X.prog X.w X.K X.mg X.base CX0 k fI fd ps sp) (hr : Room (k + 1) X.A)
    (hb : KBn X.K fd ps (0 + 1) ks g gV) (hg : Gl X x) (hm : X.mg x = some (.ref C)) (hkw : PK X kws tk) (hall : (backToKw pos (keywordEach kws X.env)).all (·.1.isSome) = true := by rfl) (hks : (backToKw pos (keywordEach kws X.env)).filterMap (·.1) = ks := by rfl)
    (hdb : (x == ("__debug__" : Str)) = false := by decide) (hpl : ((backTo pos (starEach [] X.env)).any (·.1) || (backToKw pos (keywordEach kws X.env)).any (·.1.isNone)) = false := by rfl) : PE X (.Call (.Name x p) [] kws pos) (tErr C 0 ks.length sp gV tNil tk) := by
  constructor
  intro pins s σ H Q I h
  refine wpAny_Call_Name_kw (ld_glob I hg hm ?_ hdb)
  refine PySem.W.callWith_KW0 (h₀ := X.base) I.ok.mod.kin T.kC hall (thn (hkw.run pos pins s σ H _ I h) fun ws s2 ⟨zs, H2, I2, rz, l1, l2, q2⟩ => ⟨I2.kIn, ?_⟩) hpl
  rw [hks]
  exact err_run (us := []) (vs := []) T iC tI F hr hb I2 .nil rz l1 l2 (Nat.zero_le _) q2
theorem pe_fld (he : PE X e te) (hb : attributeBase e f X.env (eval e X.env) = eval e X.env := by rfl) : PE X (.Attribute e f pos) (tFld X.K f te) := by
  constructor
  intro pins s σ H Q I h
  refine attr_of hb (thn (he.run pins s σ H _ I h) fun u s1 hh => ?_)
  obtain ⟨z, H1, I1, rx, a, C, dx, fs, v, ez, ea, ed, T, no, l, q⟩ := hh
  subst ez
  obtain rfl : u = Value.ref a := rx
  obtain ⟨t1, ho⟩ := exo_at I1.hok ea
  obtain ⟨mA, hns, rel⟩ := exd_at I1.hok ed
  obtain ⟨od, hod, hl⟩ := lookIn_ns hns
  obtain ⟨u, hu, ru⟩ := RelO.some_of (v := v) (o := mA f) (by rw [← l]; exact rel f)
  have J : PySem.W.InstAt s1.heap a { cls := .ref C, dict := some dx, data := .fields #[.ref t1, .none, .none, .none, .bool false, .none] } C (some od) := ⟨ho, rfl, rfl, hod⟩
  exact PySem.HandSPX.exc_get I1.kIn J T.ga T.gg T.exC (PySem.W.findObj_own T.hdC no rfl (by rw [hl, hu])) (handed_of ru) ⟨v, H1, I1.tok _, ru, q⟩
theorem call_isErr : CallR X (.builtin "isinstance") (rIsErr X.K) := by
  intro pins s σ H xs us Q I r h
  obtain ⟨a, C, d, c, cv, b, rfl, ea, ed, T, hc, hk, q⟩ := h
  obtain ⟨u1, u2, rfl, r1, r2⟩ := vals2 r
  have e2 := hc.eq r2
  subst e2
  obtain rfl : u1 = Value.ref a := r1
  obtain ⟨t1, ho⟩ := exo_at I.hok ea
  have hcl : (PySem.W.clsIn X.K C).isSome = true := by
    obtain ⟨nm, q, N, bs, sn, sub, ab, col, dd, k0, k1, k2, k3, k5, Bn, newId, initId, mB, hC, FB, SF⟩ := T.cls
    unfold PySem.W.clsIn
    rw [hC] <;> rfl
  have fin : ∀ od, PySem.W.InstAt s.heap a { cls := .ref C, dict := d, data := .fields #[.ref t1, .none, .none, .none, .bool false, .none] } C od → wpAny (model X.prog X.w) X.A (call (.builtin "isinstance") [.ref a, u2]) (EP X pins σ Q) X.xe s := fun od J =>
    PySem.W.kia_one (PySem.W.kitx_exc hcl T.ga T.gg T.exC T.ca T.gn T.tk T.mo) I.kIn J hk (fun z => nomatch z) fun tk => ⟨.bl b, H, I.kept (t' := tk) fun _ _ z => z, rfl, q⟩
  cases d with
  | none => exact fin none ⟨ho, rfl, rfl, trivial⟩
  | some dx =>
    obtain ⟨fs, ef⟩ := ed dx rfl
    obtain ⟨mA, hns, rel⟩ := exd_at I.hok ef
    obtain ⟨oD, _, _, hoD, _, _⟩ := hns.count (within_of rel)
    exact fin (some oD) ⟨ho, rfl, rfl, hoD⟩
end
end Ee

set_option maxRecDepth 100000
set_option maxHeartbeats 4000000
/-! errors kept as values, by data -/
namespace Ee
open PySem PySem.Spec PyProof.Rows L2 Gd Dl
open Evl (Ex Ex.refl Ex.trans Ex.new ex_l ex_t sq_of st_of fresh_back)

/-! ### what the classes' own __init__ do -/
def sp0 : Sp := fun vs H Q _ => ∃ a : Addr, vs = [.ref a] ∧ Q .non H
def sp1 (C : Addr) (f : Str) : Sp := fun vs H Q _ => ∃ (a : Addr) (y : V), vs = [.ref a, y] ∧ H a = some (exo a C none) ∧ ∀ dx, H dx = none → dx ≠ a → Q .non (upd (upd H dx (exd dx [(f, y)])) a (exo a C (some dx)))
def sp2 (C : Addr) (f g : Str) : Sp := fun vs H Q _ => ∃ (a : Addr) (y z : V), vs = [.ref a, y, z] ∧ H a = some (exo a C none) ∧
  ∀ dx, H dx = none → dx ≠ a → Q .non (upd (upd (upd H dx (exd dx [(f, y)])) a (exo a C (some dx))) dx (exd dx [(g, z), (f, y)]))
theorem pure1 {K : PySem.W.Frag} {C : Addr} {f : Str} (T : ErrC K C) (no : PySem.W.findIn K (.ref C) f = some none) (vs : List V) (H : Hp) (Q : VK) (E : XK) (h : sp1 C f vs H Q E) :
    tPut K f (tVar 0) (tVar 1) { nx := fun _ H' => Q .non H', rt := Q } (start ["self", f] vs) H := by
  obtain ⟨a, y, rfl, ha, q⟩ := h
  exact ⟨_, rfl, _, rfl, a, C, rfl, T, no, .inl ⟨ha, q⟩⟩
theorem pure2 {K : PySem.W.Frag} {C : Addr} {f g : Str} (T : ErrC K C) (n1 : PySem.W.findIn K (.ref C) f = some none) (n2 : PySem.W.findIn K (.ref C) g = some none) (vs : List V) (H : Hp) (Q : VK) (E : XK) (h : sp2 C f g vs H Q E) :
    tSeq (tPut K f (tVar 0) (tVar 1)) (tPut K g (tVar 0) (tVar 2)) { nx := fun _ H' => Q .non H', rt := Q } (start ["self", f, g] vs) H := by
  obtain ⟨a, y, z, rfl, ha, q⟩ := h
  refine ⟨_, rfl, _, rfl, a, C, rfl, T, n1, .inl ⟨ha, fun dx hd hn => ?_⟩⟩
  refine ⟨_, rfl, _, rfl, a, C, rfl, T, n2, .inr ⟨dx, [(f, y)], upd_same, ?_, Nat.le_of_ble_eq_true rfl, q dx hd hn⟩⟩
  rw [upd_ne hn]
  exact upd_same

/-- what an error class of the text gives its callers: mB its bases, p its fields' promise -/
structure Err (P : Program) (w : World) (K : PySem.W.Frag) (mg : Str → Option Value) (base : Heap) (x : Str) (C : Addr) (mB : List Value) (fs : List Str) (sp : Sp) : Prop where
  at_ : mg x = some (.ref C)
  T : ErrC K C
  mro : ∃ cd, PySem.W.clsIn K C = some cd ∧ cd.mro = .ref C :: mB
  ty : PySem.W.typeIn K (.ref C) = some (.type "type")
  no : ∀ f ∈ fs, PySem.W.findIn K (.ref C) f = some none
  init : ∃ (fI : Addr) (fd : FuncData), PySem.W.findIn K (.ref C) "__init__" = some (some (.ref fI)) ∧ PySem.W.typeIn K (.ref fI) = some (.type "function") ∧ FnOk P w K mg base CX0 1 fI fd ("self" :: fs) sp ∧ L2.Binds K fd ("self" :: fs) [] ∧
    (∀ f g, fs = [f, g] → KBn K fd ["self", f, g] 1 [g, f] (fun us ws => us ++ ws.reverse) (fun vs zs => vs ++ zs.reverse)) ∧ (∀ f, fs = [f] → KBn K fd ["self", f] 1 [f] (fun us ws => us ++ ws) (fun vs zs => vs ++ zs))
section
variable {X : Cx} {x f g : Str} {C : Addr} {mB : List Value} {e e2 : Expr} {t : TA} {te : TE} {p pos kp : Pos}
theorem pe_E0 (c : Err X.prog X.w X.K X.mg X.base x C mB [] sp0) (hr : Room 2 X.A) (hg : Gl X x) (hdb : (x == ("__debug__" : Str)) = false := by decide) : PE X (.Call (.Name x p) [] [] pos) (tErr C 0 0 sp0 (fun vs _ => vs) tNil tNil) := by
  obtain ⟨fI, fd, h1, h2, h3, h4, _⟩ := c.init
  exact pe_err0 c.T h1 h2 h3 hr (kbn_all h4 rfl) hg c.at_ hdb
theorem pe_E1 (c : Err X.prog X.w X.K X.mg X.base x C mB [f] (sp1 C f)) (hr : Room 2 X.A) (hg : Gl X x) (ha : PA X [e] t) (hdb : (x == ("__debug__" : Str)) = false := by decide)
    (he : starEach [e] X.env = (false, eval e X.env) :: starEach [] X.env := by rfl) (hpl : (backTo pos (starEach [] X.env)).any (·.1) = false := by rfl) : PE X (.Call (.Name x p) [e] [] pos) (tErr C 1 0 (sp1 C f) (fun vs _ => vs) t tNil) := by
  obtain ⟨fI, fd, h1, h2, h3, h4, _⟩ := c.init
  exact pe_err c.T h1 h2 h3 hr (kbn_all h4 rfl) (by decide) hg c.at_ ha hdb he hpl
theorem pe_E2 (c : Err X.prog X.w X.K X.mg X.base x C mB [f, g] (sp2 C f g)) (hr : Room 2 X.A) (hg : Gl X x) (ha : PA X [e, e2] t) (hdb : (x == ("__debug__" : Str)) = false := by decide)
    (he : starEach [e, e2] X.env = (false, eval e X.env) :: starEach [e2] X.env := by rfl) (hpl : (backTo pos (starEach [e2] X.env)).any (·.1) = false := by rfl) : PE X (.Call (.Name x p) [e, e2] [] pos) (tErr C 2 0 (sp2 C f g) (fun vs _ => vs) t tNil) := by
  obtain ⟨fI, fd, h1, h2, h3, h4, _⟩ := c.init
  exact pe_err c.T h1 h2 h3 hr (kbn_all h4 rfl) (by decide) hg c.at_ ha hdb he hpl
theorem pe_E1k (c : Err X.prog X.w X.K X.mg X.base x C mB [f] (sp1 C f)) (hr : Room 2 X.A) (hg : Gl X x) (ha : PE X e te) (hall : (backToKw pos (keywordEach [⟨some f, e, kp⟩] X.env)).all (·.1.isSome) = true := by rfl)
    (hks : (backToKw pos (keywordEach [⟨some f, e, kp⟩] X.env)).filterMap (·.1) = [f] := by rfl) (hdb : (x == ("__debug__" : Str)) = false := by decide) (hpl : ((backTo pos (starEach [] X.env)).any (·.1) || (backToKw pos (keywordEach [⟨some f, e, kp⟩] X.env)).any (·.1.isNone)) = false := by rfl) :
    PE X (.Call (.Name x p) [] [⟨some f, e, kp⟩] pos) (tErr C 0 1 (sp1 C f) (fun vs zs => vs ++ zs) tNil (tCons te tNil)) := by
  obtain ⟨fI, fd, h1, h2, h3, h4, _, h6⟩ := c.init
  exact pe_errk (ks := [f]) c.T h1 h2 h3 hr (h6 f rfl) hg c.at_ (pk_cons ha pk_nil) hall hks hdb hpl
theorem pe_E2k {tf : TE} {kp2 : Pos} (c : Err X.prog X.w X.K X.mg X.base x C mB [f, g] (sp2 C f g)) (hr : Room 2 X.A) (hg : Gl X x) (ha : PE X e te) (hb : PE X e2 tf) (hall : (backToKw pos (keywordEach [⟨some g, e, kp⟩, ⟨some f, e2, kp2⟩] X.env)).all (·.1.isSome) = true := by rfl)
    (hks : (backToKw pos (keywordEach [⟨some g, e, kp⟩, ⟨some f, e2, kp2⟩] X.env)).filterMap (·.1) = [g, f] := by rfl) (hdb : (x == ("__debug__" : Str)) = false := by decide) (hpl : ((backTo pos (starEach [] X.env)).any (·.1) || (backToKw pos (keywordEach [⟨some g, e, kp⟩, ⟨some f, e2, kp2⟩] X.env)).any (·.1.isNone)) = false := by rfl) :
    PE X (.Call (.Name x p) [] [⟨some g, e, kp⟩, ⟨some f, e2, kp2⟩] pos) (tErr C 0 2 (sp2 C f g) (fun vs zs => vs ++ zs.reverse) tNil (tCons te (tCons tf tNil))) := by
  obtain ⟨fI, fd, h1, h2, h3, h4, h5, _⟩ := c.init
  exact pe_errk (ks := [g, f]) c.T h1 h2 h3 hr (h5 f g rfl) hg c.at_ (pk_cons ha (pk_cons hb pk_nil)) hall hks hdb hpl
end

/-! ### by data -/
section
variable {K : PySem.W.Frag} {π : Option Pn} {σ : L2.St} {H0 H1 H2 : Hp} {te tf : TE} {tl : TA} {Φ : DP} {C : Addr} {f g : Str} {d d2 : PyData}
theorem upd3 {a dx : Addr} {o u v : HO} (h : dx ≠ a) : upd (upd (upd H1 a o) dx u) a v = upd (upd H1 dx u) a v := by
  funext b
  unfold upd
  by_cases e1 : b = a
  · rw [if_pos e1, if_pos e1]
  · rw [if_neg e1, if_neg e1, if_neg e1]
theorem upd4 {a dx : Addr} {o u v x : HO} (h : dx ≠ a) : upd (upd (upd (upd H1 a o) dx u) a v) dx x = upd (upd H1 dx x) a v := by
  funext b
  unfold upd
  by_cases e2 : b = dx
  · rw [if_pos e2, e2, if_neg h, if_pos rfl]
  · rw [if_neg e2]
    by_cases e1 : b = a
    · rw [if_pos e1, if_pos e1]
    · rw [if_neg e1, if_neg e2, if_neg e1, if_neg e1, if_neg e2]
/-- an error and its dict join the core -/
theorem err_joins {a dx : Addr} {fs : List Str} {vs : List V} {ds : List PyData} (o : Okk K π H0 H1) (ha : H1 a = none) (hd : H1 dx = none) (hn : dx ≠ a) (l : fs.length = vs.length) (m : DaAll K H0 vs ds) :
    ∃ N, Stp K π H0 H1 N (upd (upd H1 dx (exd dx (fs.zip vs))) a (exo a C (some dx))) ∧ Da K N (.ref a) (errD C fs ds) := by
  have s1 : Stp K π H0 H1 (upd H0 dx (exd dx (fs.zip vs))) (upd H1 dx (exd dx (fs.zip vs))) := o.new hd (Ex.new hd) upd_same
  have ha2 : upd H1 dx (exd dx (fs.zip vs)) a = none := by rw [upd_ne (Ne.symm hn)]; exact ha
  have s2 := (s1.okk o).new (ob := exo a C (some dx)) ha2 (Ex.new ha2) upd_same
  refine ⟨_, s1.trans s2 o, .err upd_same ?_ l (dps_ex (s1.ex.trans s2.ex) m)⟩
  rw [upd_ne hn]
  exact upd_same
theorem ed_E0 : EvD K π (tErr C 0 0 sp0 (fun vs _ => vs) tNil tNil) σ H0 (· = errD C [] []) := fun H1 o Q q =>
  ⟨rfl, rfl, fun a ha => ⟨a, rfl, rfl, q _ _ _ _ rfl (o.new ha (Ex.new ha) upd_same) (.er0 upd_same)⟩⟩
theorem ed_E1 (h : EvL K π tl σ H0 (· = [d])) : EvD K π (tErr C 1 0 (sp1 C f) (fun vs _ => vs) tl tNil) σ H0 (· = errD C [f] [d]) := fun H1 o Q q => h H1 o _ fun vs ds N H2 e s kd => by
  subst e
  obtain ⟨v, rfl, kv⟩ := dps1 kd
  refine ⟨rfl, rfl, fun a ha => ⟨a, v, rfl, upd_same, fun dx hd hn => ⟨rfl, ?_⟩⟩⟩
  rw [upd_ne hn] at hd
  rw [upd3 hn]
  obtain ⟨M, s2, k2⟩ := err_joins (C := C) (fs := [f]) (s.okk o) ha hd hn rfl kd
  exact q _ _ M _ rfl (s.trans s2 o) k2
theorem ed_E1k (h : EvD K π te σ H0 (· = d)) : EvD K π (tErr C 0 1 (sp1 C f) (fun vs zs => vs ++ zs) tNil (tCons te tNil)) σ H0 (· = errD C [f] [d]) := fun H1 o Q q => h H1 o _ fun v x N H2 e s kv => by
  subst e
  refine ⟨rfl, rfl, fun a ha => ⟨a, v, rfl, upd_same, fun dx hd hn => ⟨rfl, ?_⟩⟩⟩
  rw [upd_ne hn] at hd
  rw [upd3 hn]
  obtain ⟨M, s2, k2⟩ := err_joins (C := C) (fs := [f]) (s.okk o) ha hd hn rfl (.cons kv .nil)
  exact q _ _ M _ rfl (s.trans s2 o) k2
theorem ed_E2 (h : EvL K π tl σ H0 (· = [d, d2])) : EvD K π (tErr C 2 0 (sp2 C f g) (fun vs _ => vs) tl tNil) σ H0 (· = errD C [g, f] [d2, d]) := fun H1 o Q q => h H1 o _ fun vs ds N H2 e s kd => by
  subst e
  cases kd with
  | cons k1 kd2 =>
    obtain ⟨z, rfl, k2⟩ := dps1 kd2
    refine ⟨rfl, rfl, fun a ha => ⟨a, _, z, rfl, upd_same, fun dx hd hn => ⟨rfl, ?_⟩⟩⟩
    rw [upd_ne hn] at hd
    rw [upd4 hn]
    obtain ⟨M, s2, k3⟩ := err_joins (C := C) (fs := [g, f]) (s.okk o) ha hd hn rfl (.cons k2 (.cons k1 .nil))
    exact q _ _ M _ rfl (s.trans s2 o) k3
theorem ed_E2k (h : EvL K π (tCons te (tCons tf tNil)) σ H0 (· = [d2, d])) : EvD K π (tErr C 0 2 (sp2 C f g) (fun vs zs => vs ++ zs.reverse) tNil (tCons te (tCons tf tNil))) σ H0 (· = errD C [g, f] [d2, d]) := fun H1 o Q q => by
  show tCons te (tCons tf tNil) σ H1 (fun zs H2 => (([] : List V).length = 0 ∧ zs.length = 2 ∧ ∀ a, H2 a = none → sp2 C f g ([V.ref a] ++ zs.reverse) (upd H2 a (exo a C none)) (fun v H3 => v = .non ∧ Q (.ref a) H3) E0))
  refine h H1 o _ fun vs ds N H2 e s kd => ?_
  subst e
  cases kd with
  | cons k1 kd2 =>
    obtain ⟨z, rfl, k2⟩ := dps1 kd2
    refine ⟨rfl, rfl, fun a ha => ⟨a, z, _, rfl, upd_same, fun dx hd hn => ⟨rfl, ?_⟩⟩⟩
    rw [upd_ne hn] at hd
    rw [upd4 hn]
    obtain ⟨M, s2, k3⟩ := err_joins (C := C) (fs := [g, f]) (s.okk o) ha hd hn rfl (.cons k1 (.cons k2 .nil))
    exact q _ _ M _ rfl (s.trans s2 o) k3
/-- what stands at an error -/
theorem da_err {H : Hp} {v : V} {d : PyData} (h : Da K H v d) {fs : List Str} {ds : List PyData} (e : d = errD C fs ds) :
    ∃ (a : Addr) (dd : Option Addr), v = .ref a ∧ H a = some (exo a C dd) ∧ (∀ dx, dd = some dx → ∃ vs, H dx = some (exd dx (fs.zip vs)) ∧ fs.length = vs.length ∧ DaAll K H vs ds) ∧ (dd = none → ds = []) := by
  unfold errD at e
  cases h with
  | er0 s =>
    injection e with e
    injection e with e1 e2
    injection e1 with e3 e4
    injection e2 with e5 e6
    injection e5 with e7 e8
    injection e3 with e3
    injection e8 with e8
    have ec := Int.ofNat.inj e3
    subst ec
    exact ⟨_, none, rfl, s, (fun dx z => by cases z), fun _ => e8.symm⟩
  | @err a C' dx fs' vs rows s t l m =>
    injection e with e
    injection e with e1 e2
    injection e1 with e3 e4
    injection e2 with e5 e6
    injection e5 with e7 e8
    injection e3 with e3
    injection e4 with e4
    injection e8 with e8
    have ec := Int.ofNat.inj e3
    subst ec
    have ef : fs' = fs := (List.map_inj_right (fun x y z => by injection z)).mp e4
    subst ef
    subst e8
    exact ⟨_, some dx, rfl, s, (fun dx' z => by cases z; exact ⟨vs, t, l, m⟩), (fun z => by cases z)⟩
  | emp s => cases e
  | non => cases e
  | bl _ => cases e
  | int _ => cases e
  | str _ => cases e
  | lst _ _ => cases e
  | tup _ _ => cases e
theorem zip_at : ∀ {fs : List Str} {vs : List V} {ds : List PyData} {H : Hp} {d : PyData}, fs.length = vs.length → DaAll K H vs ds → (fs.zip ds).lookup f = some d → ∃ v, (fs.zip vs).lookup f = some v ∧ Da K H v d
  | [], _, _, _, _, _, _, h => by simp at h
  | x :: fs, [], _, _, _, l, _, _ => by simp at l
  | x :: fs, v :: vs, _, _, d, l, .cons k1 k2, h => by
    rw [List.zip_cons_cons, lookup_put] at *
    by_cases e : f = x
    · subst e
      simp at h
      subst h
      exact ⟨v, by simp, k1⟩
    · have e' : (f == x) = false := by simpa using e
      simp only [List.lookup, e'] at h
      rw [if_neg e]
      exact zip_at (by simpa using l) k2 h
theorem ed_fld {fs : List Str} {ds : List PyData} (h : EvD K π te σ H0 (· = errD C fs ds)) (T : ErrC K C) (no : PySem.W.findIn K (.ref C) f = some none) (hl : (fs.zip ds).lookup f = some d) : EvD K π (tFld K f te) σ H0 (· = d) := fun H1 o Q q => h H1 o _ fun v x N H2 e s kv => by
  obtain ⟨a, dd, rfl, ha, hd, hn⟩ := da_err kv e
  have o2 := s.okk o
  cases dd with
  | none =>
    rw [hn rfl] at hl
    simp at hl
  | some dx =>
    obtain ⟨vs, hx, l, m⟩ := hd dx rfl
    obtain ⟨y, e1, e2⟩ := zip_at l m hl
    exact ⟨a, C, dx, _, y, rfl, o2.ex _ _ ha, o2.ex _ _ hx, T, no, e1, q y d N H2 rfl s e2⟩
theorem ed_isE {fs : List Str} {ds : List PyData} {c : V} {cv : Value} {b : Bool} (h : EvD K π te σ H0 (· = errD C fs ds)) (T : ErrC K C) (hc : ClsV c cv) (hk : PySem.W.kitOne K (.ref C) cv = some b) :
    EvD K π (tCB (rIsErr K) (tCons te (tCons (tC c) tNil))) σ H0 (· = .bool b) := fun H1 o Q q => h H1 o _ fun v x N H2 e s kv => by
  obtain ⟨a, dd, rfl, ha, hd, hn⟩ := da_err kv e
  have o2 := s.okk o
  exact ⟨a, C, dd, c, cv, b, rfl, o2.ex _ _ ha, fun dx z => (by
    obtain ⟨vs, hx, _, _⟩ := hd dx z
    exact ⟨_, o2.ex _ _ hx⟩), T, hc, hk, q (.bl b) _ N H2 rfl s (.bl b)⟩
theorem ed_dict : EvD K π tDNewK σ H0 (· = .dict []) := fun H1 o Q q p hp => q _ _ _ _ rfl (o.new hp (Ex.new hp) upd_same) (.emp upd_same)
end

/-! ### which classes an error is of -/
section
variable {P : Program} {w : World} {K : PySem.W.Frag} {mg : Str → Option Value} {base : Heap} {x x' : Str} {C C' : Addr} {mB mB' : List Value} {fs fs' : List Str} {sp sp' : Sp}
theorem kit_own (c : Err P w K mg base x C mB fs sp) (c' : Err P w K mg base x' C' mB' fs' sp') (h : mB.all (fun v => match v with | .type _ => true | _ => false) = true) : PySem.W.kitOne K (.ref C) (.ref C') = some (decide (C = C')) := by
  unfold PySem.W.kitOne
  by_cases e : C = C'
  · subst e
    simp
  · have e1 : (Value.ref C == Value.ref C') = false := by simpa using e
    rw [e1, if_neg Bool.false_ne_true]
    obtain ⟨cd, h1, h2⟩ := c.mro
    obtain ⟨cd', h3, _⟩ := c'.mro
    unfold PySem.W.kitCls
    dsimp only
    rw [h3, c'.ty]
    have e2 : mB.contains (.ref C') = false := by
      cases q : mB.contains (.ref C') with
      | false => rfl
      | true =>
        have := List.all_eq_true.mp h _ (List.contains_iff_mem.mp q)
        cases this
    have e3 : (((some cd' : Option ClassData).isSome && (some (Value.type "type") == some (Value.type "type"))) = true) := by simp
    rw [if_pos e3]
    unfold PySem.W.subIn PySem.W.mroIn
    dsimp only
    rw [h1, Option.bind_some, h2, if_neg (by simp), List.contains_cons, e2]
    simp [e, Ne.symm e]
theorem kit_built (c : Err P w K mg base x C mB fs sp) {n : String} (h : PySem.W.kitMeta n = true) : PySem.W.kitOne K (.ref C) (.type n) = some (mB.contains (.type n)) := by
  unfold PySem.W.kitOne
  have e1 : (Value.ref C == Value.type n) = false := by rfl
  rw [e1, if_neg Bool.false_ne_true]
  obtain ⟨cd, h1, h2⟩ := c.mro
  unfold PySem.W.kitCls
  dsimp only
  rw [if_pos h]
  unfold PySem.W.subIn PySem.W.mroIn
  dsimp only
  rw [h1, Option.bind_some, h2, if_neg (by simp), List.contains_cons]
  simp
end
end Ee

set_option maxRecDepth 100000
set_option maxHeartbeats 4000000
namespace Gd
open PySem PySem.Spec PyProof.Rows L2

/-- the script as it is tracked at the law's entry -/
def entryH (K : PySem.W.Frag) (a : Addr) (vs : List Value) (ns : List Int) : Hp := fun b =>
  if b = a ∧ K.lookup a = none then some (.frz { cls := .type "list", data := .seq vs.toArray } (.lst (ns.map V.int))) else none
theorem entry_of {K : PySem.W.Frag} {a b : Addr} {vs : List Value} {ns : List Int} {u : HO} (h : entryH K a vs ns b = some u) :
    b = a ∧ K.lookup a = none ∧ u = .frz { cls := .type "list", data := .seq vs.toArray } (.lst (ns.map V.int)) := by
  unfold entryH at h
  split at h
  · rename_i c
    exact ⟨c.1, c.2, (Option.some.inj h).symm⟩
  · cases h
theorem entry_sq {K : PySem.W.Frag} {s : Shared} {a : Addr} {vs : List Value} {ns : List Int} (KX : K.In s.heap) (ha : s.heap.get? a = some { cls := .type "list", data := .seq vs.toArray }) (hi : IntsAre vs ns) (hl : ns.length ≤ sizeLine) :
    SqL K (entryH K a vs ns) a (ns.map V.int) := by
  cases hk : K.lookup a with
  | none =>
    exact .inl (.inr ⟨{ cls := .type "list", data := .seq vs.toArray }, if_pos ⟨rfl, hk⟩⟩)
  | some o =>
    have e := KX a o hk
    rw [ha] at e
    cases e
    refine .inr ⟨_, vs.toArray, _, hk, rfl, rfl, rfl, ?_, ?_⟩
    · rw [List.size_toArray, hi.length]
      exact hl
    · simpa using vals_ints hi

theorem law_run {P : Program} {w : World} {K : PySem.W.Frag} {mg mb : Str → Option Value} {k : Nat} {fa a : Addr} {fd : FuncData} {x : Str} {sp : Sp} {s₁ : Shared} {vs : List Value} {ns : List Int}
    (KX : K.In s₁.heap) (gl : s₁.heap.Ns mainGlobals mg) (bl : s₁.heap.Ns builtinsNs mb) (bb : ∀ x : Str, x ≠ "__name__" → mb x = bootBuiltins x) (lim : s₁.heap.NoLimit) (gn : s₁.gens = #[])
    (ha : s₁.heap.get? a = some { cls := .type "list", data := .seq vs.toArray }) (hi : IntsAre vs ns) (hl : ns.length ≤ sizeLine) (hr : Room k callerA)
    (F : ∀ base : Heap, K.In base → base.Ns mainGlobals mg → Fn P w K mg base k fa fd [x] sp) (bind : ∀ (s : Shared) (u : Value), BindsTo s fd ⟨[u], []⟩ [(x, u)])
    (hsp : ∀ H : Hp, SqL K H a (ns.map V.int) → sp [.ref a] H (fun v _ => v = .bl true) E0) :
    codeAny (model P w) callerA (.call (.ref fa) ⟨[.ref a], []⟩) (fun r s' => r = .ok (.ret (.bool true)) ∧ OldK s₁.heap s'.heap ∧ s'.os = s₁.os ∧ AllBare s'.gens) s₁ := by
  have rv := vals_ints hi
  have ok : HOk P w (entryH K a vs ns) s₁.heap := fun b u e => by
    obtain ⟨rfl, _, rfl⟩ := entry_of e
    exact ⟨ha, by rw [List.length_map]; exact hl, vs, _, rv, ha⟩
  have known : ∀ {b : Addr} {o : Obj}, s₁.heap.get? b = some o → (b ≠ a ∨ K.lookup a ≠ none) → (hidT s₁.heap (entryH K a vs ns)).get? b = some o := fun {b o} e n => by
    apply hidT_get e
    cases q : entryH K a vs ns b with
    | none => rfl
    | some u =>
      obtain ⟨h1, h2, _⟩ := entry_of q
      rcases n with n | n
      · exact absurd h1 n
      · exact absurd h2 n
  have names : ∀ {b : Addr} {m : Str → Option Value}, s₁.heap.Ns b m → (hidT s₁.heap (entryH K a vs ns)).Ns b m := fun {b m} h => by
    obtain ⟨o, es, ep, e, d, r⟩ := h
    refine ⟨o, es, ep, known e (.inl fun z => ?_), d, r⟩
    subst z
    rw [ha] at e
    cases e
    cases d
  have inK : K.In (hidT s₁.heap (entryH K a vs ns)) := fun b o e => by
    refine known (KX b o e) ?_
    by_cases h : b = a
    · subst h
      exact .inr fun z => by
        rw [z] at e
        cases e
    · exact .inl h
  have md : Mod K mg (hidT s₁.heap (entryH K a vs ns)) := by
    obtain ⟨mc, h1, h2⟩ := lim
    exact ⟨inK, names gl, ⟨mb, names bl, bb⟩, mc, names h1, h2⟩
  have env : Env0 P w K mg (hidT s₁.heap (entryH K a vs ns)) callerA [] s₁ (entryH K a vs ns) := by
    refine ⟨rfl, md, fun b o e => of_hidT e, Nat.le_of_eq (hidT_size _ _), trivial, ?_, ok, .of_eq gn⟩
    intro b hb
    cases hb
  have run := (F _ inK (names gl)).run callerA [] s₁ (entryH K a vs ns) ⟨[.ref a], []⟩ [.ref a] [.ref a] _ E0 rfl hr env (bind s₁ (.ref a)) (.cons rfl .nil) (hsp _ (entry_sq KX ha hi hl))
  apply codeAny_mono run
  intro r s' h
  match r, h with
  | .ok (.ret u), h =>
    obtain ⟨v, H', os, bare, un, ok', ru, q⟩ := h
    subst q
    cases ru
    refine ⟨rfl, OldK.of_keep fun b o e => ?_, os, bare⟩
    cases q : entryH K a vs ns b with
    | none => exact un.keep b o e q (fun z => by cases z) (fun z => by cases z)
    | some u =>
      obtain ⟨rfl, _, rfl⟩ := entry_of q
      have e2 := (ok' _ _ (un.frzs _ _ _ q)).1
      rw [ha] at e
      cases e
      exact e2
  | .ok .next, h => exact False.elim h
  | .ok .brk, h => exact False.elim h
  | .ok .cont, h => exact False.elim h
  | .error e, h => exact False.elim h

theorem walk_end {l : PySem.W.OpenLaw} {n k : Nat} {q : Program} {loose : List Str} {XP : (Str → Option Value) → Heap → Prop} {YP : World → Heap → Prop} {d : DefRec} {K : Params → PySem.W.Frag} {sp : PySem.W.Frag → Sp} {x : Str}
    (hn : l.most = some n) (hn2 : n ≤ sizeLine) (hdf : d.params.defaults = []) (hr : Room k callerA) (hY : ∀ (w : World) (h : Heap), YP w h → (K w.params).In h)
    (F : ∀ (w : World) (mg : Str → Option Value) (fa : Addr) (h : Heap), (K w.params).In h → h.Ns mainGlobals mg → mg d.name = some (.ref fa) →
      ∃ fd : FuncData, (∀ (s : Shared) (u : Value), BindsTo s fd ⟨[u], []⟩ [(x, u)]) ∧ ∀ base : Heap, (K w.params).In base → base.Ns mainGlobals mg → Fn l.prog w (K w.params) mg base k fa fd [x] (sp (K w.params)))
    (hsp : ∀ (K : PySem.W.Frag) (H : Hp) (a : Addr) (ns : List Int), ns.length ≤ n → SqL K H a (ns.map V.int) → sp K [.ref a] H (fun v _ => v = .bl true) E0) :
    PySem.W.WalkO q loose XP YP l.row.toRowW d [] (fun f vs => PySem.call f vs) := by
  refine Att.attach_call hn hdf ?_
  intro w s₀ s₁ mg mb fa o pm cd doc a vs ns G Y ho hd hcd hmg hobj hints hlen hg
  obtain ⟨fd, hb, hF⟩ := F w mg fa _ (hY w _ Y) G.T.g hmg
  exact law_run (hY w _ Y) G.T.g G.T.b G.T.builtins G.T.nolimit hg hobj hints (Nat.le_trans hlen hn2) hr hF hb fun H hS => hsp (K w.params) H a ns hlen hS

/-- a def stands in the text's module under its name -/
def Dfn (K : PySem.W.Frag) (x : Str) (st : Stmt) (f : Addr) (fd : FuncData) : Prop := PySem.W.nsIn K mainGlobals x = some (some (.ref f)) ∧ Fun K x x st f fd
theorem dfn_mk {K : PySem.W.Frag} {x : Str} {st : Stmt} {f : Addr} {oc : Value} {od an : Option Addr} {osl : Array (Option Value)} {kV doc pm cdv ct : Value} (a : PySem.W.nsIn K mainGlobals x = some (some (.ref f)))
    (l : K.lookup f = some ⟨oc, od, .func (PySem.W.fnOf x x (defArgs st) (defBody st) (defScope st) .none kV doc pm an cdv ct), osl⟩) (c : PySem.W.codeIn K cdv x = true) (k : PySem.W.keepIn K (.ref f) = true) :
    Dfn K x st f (PySem.W.fnOf x x (defArgs st) (defBody st) (defScope st) .none kV doc pm an cdv ct) := ⟨a, fun_mk l c k⟩
end Gd

set_option maxRecDepth 100000
set_option maxHeartbeats 4000000
namespace Gd
open PySem PySem.Spec PyProof.Rows L2
/-- the modules' table is a dict -/
def Sy (h : Heap) : Prop := ∃ o es n, h.get? sysModules = some o ∧ o.data = .dict es n
theorem sy_of {h : Heap} (x : h.NoSeer) : Sy h := by
  obtain ⟨mm, ⟨o, es, ep, h1, h2, _⟩, _⟩ := x.mods
  exact ⟨o, es, ep, h1, h2⟩
theorem law_runS {P : Program} {w : World} {K : PySem.W.Frag} {mg mb : Str → Option Value} {k : Nat} {fa a : Addr} {fd : FuncData} {x : Str} {sp : Sp} {s₁ : Shared} {vs : List Value} {ns : List Int}
    (KX : K.In s₁.heap) (gl : s₁.heap.Ns mainGlobals mg) (bl : s₁.heap.Ns builtinsNs mb) (bb : ∀ x : Str, x ≠ "__name__" → mb x = bootBuiltins x) (lim : s₁.heap.NoLimit) (gn : s₁.gens = #[]) (sy : Sy s₁.heap)
    (ha : s₁.heap.get? a = some { cls := .type "list", data := .seq vs.toArray }) (hi : IntsAre vs ns) (hl : ns.length ≤ sizeLine) (hr : Room k callerA)
    (F : ∀ base : Heap, K.In base → base.Ns mainGlobals mg → Sy base → Fn P w K mg base k fa fd [x] sp) (bind : ∀ (s : Shared) (u : Value), BindsTo s fd ⟨[u], []⟩ [(x, u)])
    (hsp : ∀ H : Hp, SqL K H a (ns.map V.int) → sp [.ref a] H (fun v _ => v = .bl true) E0) :
    codeAny (model P w) callerA (.call (.ref fa) ⟨[.ref a], []⟩) (fun r s' => r = .ok (.ret (.bool true)) ∧ OldK s₁.heap s'.heap ∧ s'.os = s₁.os ∧ AllBare s'.gens) s₁ := by
  have rv := vals_ints hi
  have ok : HOk P w (entryH K a vs ns) s₁.heap := fun b u e => by
    obtain ⟨rfl, _, rfl⟩ := entry_of e
    exact ⟨ha, by rw [List.length_map]; exact hl, vs, _, rv, ha⟩
  have known : ∀ {b : Addr} {o : Obj}, s₁.heap.get? b = some o → (b ≠ a ∨ K.lookup a ≠ none) → (hidT s₁.heap (entryH K a vs ns)).get? b = some o := fun {b o} e n => by
    apply hidT_get e
    cases q : entryH K a vs ns b with
    | none => rfl
    | some u =>
      obtain ⟨h1, h2, _⟩ := entry_of q
      rcases n with n | n
      · exact absurd h1 n
      · exact absurd h2 n
  have names : ∀ {b : Addr} {m : Str → Option Value}, s₁.heap.Ns b m → (hidT s₁.heap (entryH K a vs ns)).Ns b m := fun {b m} h => by
    obtain ⟨o, es, ep, e, d, r⟩ := h
    refine ⟨o, es, ep, known e (.inl fun z => ?_), d, r⟩
    subst z
    rw [ha] at e
    cases e
    cases d
  have inK : K.In (hidT s₁.heap (entryH K a vs ns)) := fun b o e => by
    refine known (KX b o e) ?_
    by_cases h : b = a
    · subst h
      exact .inr fun z => by
        rw [z] at e
        cases e
    · exact .inl h
  have md : Mod K mg (hidT s₁.heap (entryH K a vs ns)) := by
    obtain ⟨mc, h1, h2⟩ := lim
    exact ⟨inK, names gl, ⟨mb, names bl, bb⟩, mc, names h1, h2⟩
  have env : Env0 P w K mg (hidT s₁.heap (entryH K a vs ns)) callerA [] s₁ (entryH K a vs ns) := by
    refine ⟨rfl, md, fun b o e => of_hidT e, Nat.le_of_eq (hidT_size _ _), trivial, ?_, ok, .of_eq gn⟩
    intro b hb
    cases hb
  have sy2 : Sy (hidT s₁.heap (entryH K a vs ns)) := by
    obtain ⟨o, es, n, e1, e2⟩ := sy
    refine ⟨o, es, n, known e1 (.inl fun z => ?_), e2⟩
    subst z
    rw [ha] at e1
    cases e1
    cases e2
  have run := (F _ inK (names gl) sy2).run callerA [] s₁ (entryH K a vs ns) ⟨[.ref a], []⟩ [.ref a] [.ref a] _ E0 rfl hr env (bind s₁ (.ref a)) (.cons rfl .nil) (hsp _ (entry_sq KX ha hi hl))
  apply codeAny_mono run
  intro r s' h
  match r, h with
  | .ok (.ret u), h =>
    obtain ⟨v, H', os, bare, un, ok', ru, q⟩ := h
    subst q
    cases ru
    refine ⟨rfl, OldK.of_keep fun b o e => ?_, os, bare⟩
    cases q : entryH K a vs ns b with
    | none => exact un.keep b o e q (fun z => by cases z) (fun z => by cases z)
    | some u =>
      obtain ⟨rfl, _, rfl⟩ := entry_of q
      have e2 := (ok' _ _ (un.frzs _ _ _ q)).1
      rw [ha] at e
      cases e
      exact e2
  | .ok .next, h => exact False.elim h
  | .ok .brk, h => exact False.elim h
  | .ok .cont, h => exact False.elim h
  | .error e, h => exact False.elim h

theorem walk_endS {l : PySem.W.OpenLaw} {n k : Nat} {q : Program} {loose : List Str} {XP : (Str → Option Value) → Heap → Prop} {YP : World → Heap → Prop} {d : DefRec} {K : Params → PySem.W.Frag} {sp : PySem.W.Frag → Sp} {x : Str} (hno : importsNone q = true)
    (hn : l.most = some n) (hn2 : n ≤ sizeLine) (hdf : d.params.defaults = []) (hr : Room k callerA) (hY : ∀ (w : World) (h : Heap), YP w h → (K w.params).In h)
    (F : ∀ (w : World) (mg : Str → Option Value) (fa : Addr) (h : Heap), (K w.params).In h → h.Ns mainGlobals mg → mg d.name = some (.ref fa) →
      ∃ fd : FuncData, (∀ (s : Shared) (u : Value), BindsTo s fd ⟨[u], []⟩ [(x, u)]) ∧ ∀ base : Heap, (K w.params).In base → base.Ns mainGlobals mg → Sy base → Fn l.prog w (K w.params) mg base k fa fd [x] (sp (K w.params)))
    (hsp : ∀ (K : PySem.W.Frag) (H : Hp) (a : Addr) (ns : List Int), ns.length ≤ n → SqL K H a (ns.map V.int) → sp K [.ref a] H (fun v _ => v = .bl true) E0) :
    PySem.W.WalkO q loose XP YP l.row.toRowW d [] (fun f vs => PySem.call f vs) := by
  refine Att.attach_call hn hdf ?_
  intro w s₀ s₁ mg mb fa o pm cd doc a vs ns G Y ho hd hcd hmg hobj hints hlen hg
  obtain ⟨fd, hb, hF⟩ := F w mg fa _ (hY w _ Y) G.T.g hmg
  exact law_runS (hY w _ Y) G.T.g G.T.b G.T.builtins G.T.nolimit hg (sy_of (G.T.seer hno)) hobj hints (Nat.le_trans hlen hn2) hr hF hb fun H hS => hsp (K w.params) H a ns hlen hS

end Gd

set_option maxRecDepth 100000
set_option maxHeartbeats 4000000
/-! repr of data in which empty dicts may stand -/
namespace Ee
open PySem PySem.Spec PyProof.Rows L2 Gd Dl
open Evl (Ex Ex.refl Ex.trans Ex.new ex_l ex_t sq_of st_of fresh_back)
mutual
def okD : PyData → Bool
  | .dict kvs => kvs.isEmpty
  | .list xs => okDs xs
  | .tuple xs => okDs xs
  | _ => true
def okDs : List PyData → Bool
  | [] => true
  | x :: xs => okD x && okDs xs
end
section
variable {X : Cx} {pins : List (Addr × Obj)} {σ : L2.St} {H : Hp} {s : Shared}
theorem not_mods (I : Inv X pins σ H s) (sy : Sy X.base) {a : Addr} {o : Obj} {vs : Array Value} {n : Nat} (h : s.heap.get? a = some o) (hd : o.data = .seq vs n) : sysModules ≠ a := fun z => by
  obtain ⟨o', es, m, e1, e2⟩ := sy
  have e3 := I.bk _ _ e1
  rw [z, h] at e3
  cases e3
  rw [hd] at e2
  cases e2
mutual
theorem da_reads (I : Inv X pins σ H s) (sy : Sy X.base) {d : PyData} {v : V} : Da X.K H v d → okD d = true → ∀ u, RelV v u → ∃ as, Reads s.heap u d as ∧ sysModules ∉ as
  | .non, _, u, r => by
    cases r
    exact ⟨_, Reads.none, by simp⟩
  | .bl q, _, u, r => by
    cases r
    exact ⟨_, Reads.bool q, by simp⟩
  | .int q, _, u, r => by
    obtain ⟨t, rfl⟩ := r
    exact ⟨_, Reads.int q t, by simp⟩
  | .str q, _, u, r => by
    obtain ⟨t, rfl⟩ := r
    exact ⟨_, Reads.str q t, by simp⟩
  | .lst hs m, h, u, r => by
    cases r
    obtain ⟨its, rv, ⟨o, n, ho, hc, _, hd⟩, _⟩ := I.list hs
    obtain ⟨as, hr, hn⟩ := das_reads I sy m (by simpa [okD] using h) its rv
    refine ⟨_, Reads.list ho hc hd hr, fun z => ?_⟩
    rcases List.mem_cons.mp z with z | z
    · exact not_mods I sy ho hd z
    · exact hn z
  | .tup hs m, h, u, r => by
    cases r
    obtain ⟨its, rv, ⟨o, ho, hc, n, hd⟩, _⟩ := I.tuple hs
    obtain ⟨as, hr, hn⟩ := das_reads I sy m (by simpa [okD] using h) its rv
    exact ⟨_, Reads.tuple ho hc hd hr, hn⟩
  | .emp s, _, u, r => by
    cases r
    obtain ⟨_, lo, vs, kv, hD⟩ := dk_of I.hok s
    cases kv
    obtain ⟨o, es, ep, ho, hx, hd, _, pr, _⟩ := hD
    have e0 : es.toList = [] := by
      cases q : es.toList with
      | nil => rfl
      | cons z zs =>
        rw [q] at pr
        cases pr
    refine ⟨_, Reads.dict ho hx.1 hd (by rw [e0]; exact ReadsAll.nil) (by rw [e0]; exact ReadsAll.nil), fun z => ?_⟩
    rw [List.append_nil, List.mem_singleton] at z
    rw [← z] at lo
    exact absurd lo (by decide)
  | .er0 _, h, _, _ => by simp [okD] at h
  | .err _ _ _ _, h, _, _ => by simp [okD] at h
theorem das_reads (I : Inv X pins σ H s) (sy : Sy X.base) {ds : List PyData} {vs : List V} : DaAll X.K H vs ds → okDs ds = true → ∀ us, Vals vs us → ∃ as, ReadsAll s.heap us ds as ∧ sysModules ∉ as
  | .nil, _, us, r => by
    cases r
    exact ⟨_, ReadsAll.nil, by simp⟩
  | .cons h t, q, us, r => by
    cases r with
    | cons r1 r2 =>
      simp only [okDs, Bool.and_eq_true] at q
      obtain ⟨as, q1, n1⟩ := da_reads I sy h q.1 _ r1
      obtain ⟨bs, q2, n2⟩ := das_reads I sy t q.2 _ r2
      exact ⟨_, ReadsAll.cons q1 q2, fun z => (List.mem_append.mp z).elim n1 n2⟩
end
end
def rReprE (K : PySem.W.Frag) : List V → Hp → VK → Prop := fun xs H Q => ∃ (x : V) (d : PyData), xs = [x] ∧ Da K H x d ∧ d.showable = true ∧ okD d = true ∧ d.depth ≤ 40 ∧ d.shown.length ≤ sizeLine ∧ Q (.str d.shown) H
theorem call_reprE {X : Cx} {k : Nat} (hfree : Free X.A) (hr : Room k X.A) (sy : Sy X.base) : CallR X (.builtin "repr") (rReprE X.K) := by
  intro pins s σ H xs us Q I r h
  obtain ⟨x, d, rfl, hd, hs, hn, hde, hz, q⟩ := h
  have hu := hr.units
  cases r with
  | cons rx rn =>
    cases rn
    rename_i u
    obtain ⟨as, rd, nm⟩ := da_reads I sy hd hn u rx
    have fin : ∀ (a : Addr), u = .ref a → wpAny (model X.prog X.w) X.A (call (.builtin "repr") [u]) (EP X pins σ Q) X.xe s := by
      rintro a rfl
      apply repr_of_reads' rd hs (fun _ => nm) hfree (by omega) (fun _ _ e => e) _ hz
      intro h' u tk hk
      exact ⟨.str _, H, I.kept hk, ⟨_, rfl⟩, q⟩
    cases hd with
    | non =>
      cases rx
      exact P.repr_of_none ⟨.str _, H, I.tok _, ⟨_, rfl⟩, q⟩
    | bl b =>
      cases rx
      exact P.repr_of_bool ⟨.str _, H, I.tok _, ⟨_, rfl⟩, q⟩
    | int i =>
      obtain ⟨tk, rfl⟩ := rx
      have hi : i.natAbs.log2 < 1920 := of_decide_eq_true (by simpa [PyData.showable] using hs)
      exact P.repr_of_int hi ⟨.str _, H, I.tok _, ⟨_, rfl⟩, q⟩
    | str y =>
      obtain ⟨tk, rfl⟩ := rx
      exact P.repr_of_str ⟨.str _, H, I.tok _, ⟨_, rfl⟩, q⟩ hz
    | lst => exact fin _ rx
    | tup => exact fin _ rx
    | emp => exact fin _ rx
    | er0 => simp [okD] at hn
    | err => simp [okD] at hn
section
variable {K : PySem.W.Frag} {π : Option Pn}
theorem cb_reprE {d : PyData} (h1 : d.showable = true) (h2 : okD d = true) (h3 : d.depth ≤ 40) (h4 : d.shown.length ≤ sizeLine) : CbD K π (rReprE K) [d] (· = .str d.shown) := fun vs H0 H1 h o Q q => by
  obtain ⟨v, rfl, hv⟩ := dps1 h
  exact ⟨v, d, rfl, dp_ex o.ex hv, h1, h2, h3, h4, q _ _ H0 H1 rfl o.stp (.str _)⟩
end
end Ee

set_option maxRecDepth 100000
set_option maxHeartbeats 4000000
/-! questions that any value is asked: its kind, its bounds, whether it is a certain text -/
namespace Dl
open PySem PySem.Spec PyProof.Rows L2 Gd Dt
open Evl (Ex Ex.refl Ex.trans Ex.new ex_l ex_t sq_of st_of fresh_back)
open PySem.AutoSeq1 (wpAny_loadPart')
/-- the name of a value's class; an error has none here -/
def kindD : PyData → String
  | .none => "NoneType"
  | .bool _ => "bool"
  | .int _ => "int"
  | .str _ => "str"
  | .list _ => "list"
  | .tuple _ => "tuple"
  | .dict _ => "dict"
/-- no error at the top -/
def noErr : PyData → Bool
  | .dict (_ :: _) => false
  | _ => true
section
variable {K : PySem.W.Frag} {π : Option Pn} {σ : L2.St} {H0 H : Hp} {te ta tb tc : TE} {Φ : DP}
theorem tyx_of {v : V} {d : PyData} (h : Da K H v d) (n : noErr d = true) : TyX K H v (.type (kindD d)) := by
  cases h with
  | non => exact .base .non
  | bl q => exact .base (.bl q)
  | int q => exact .base (.int q)
  | str q => exact .base (.str q)
  | lst s m =>
    rcases s with (s | ⟨o, s⟩) | ⟨o, its, z, hk, hc, _⟩
    · exact .base (.lst s)
    · exact .base (.frz s)
    · exact .kList hk hc
  | tup s m =>
    rcases s with (s | ⟨o, s⟩) | ⟨o, its, z, hk, hc, _⟩
    · exact .base (.tup s)
    · exact .fTuple s
    · exact .kTuple hk hc
  | emp s => exact .base (.dK s)
  | er0 s => cases n
  | err s t l m => cases n
theorem ed_isi {n : String} (h : EvD K π te σ H0 Φ) {g : PyData → Bool} (k : ∀ d, Φ d → noErr d = true ∧ kitB (kindD d) n = some (g d)) : EvD K π (tCB (rIsi K) (tCons te (tCons (tC (.ty n)) tNil))) σ H0 (fun e => ∃ d, Φ d ∧ e = .bool (g d)) := fun H1 o Q q => h H1 o _ fun v d N H2 hd s kv =>
  have z := k d hd
  ⟨v, .ty n, _, _, g d, rfl, .ty n, tyx_of (dp_ex (s.okk o).ex kv) z.1, kit_ty z.2, q (.bl (g d)) _ N H2 ⟨d, hd, rfl⟩ s (.bl _)⟩
theorem ed_isi' {n : String} {d : PyData} {b : Bool} (h : EvD K π te σ H0 (· = d)) (h1 : noErr d = true) (h2 : kitB (kindD d) n = some b) : EvD K π (tCB (rIsi K) (tCons te (tCons (tC (.ty n)) tNil))) σ H0 (· = .bool b) := fun H1 o Q q => h H1 o _ fun v e N H2 hd s kv => by
  subst hd
  exact ⟨v, .ty n, _, _, b, rfl, .ty n, tyx_of (dp_ex (s.okk o).ex kv) h1, kit_ty h2, q (.bl b) _ N H2 rfl s (.bl _)⟩
def isInt : PyData → Bool
  | .int _ => true
  | .bool _ => true
  | _ => false
def isBool : PyData → Bool
  | .bool _ => true
  | _ => false
def isTup : PyData → Bool
  | .tuple _ => true
  | _ => false
def isStr : PyData → Bool
  | .str _ => true
  | _ => false
theorem kit_int (d : PyData) : kitB (kindD d) "int" = some (isInt d) := by cases d <;> (simp only [kindD, isInt]; decide +kernel)
theorem kit_bool (d : PyData) : kitB (kindD d) "bool" = some (isBool d) := by cases d <;> (simp only [kindD, isBool]; decide +kernel)
theorem kit_tup (d : PyData) : kitB (kindD d) "tuple" = some (isTup d) := by cases d <;> (simp only [kindD, isTup]; decide +kernel)
theorem kit_str (d : PyData) : kitB (kindD d) "str" = some (isStr d) := by cases d <;> (simp only [kindD, isStr]; decide +kernel)
/-- a ≤ b ≤ c -/
theorem ed_between {a b c : Int} (ha : EvD K π ta σ H0 (· = .int a)) (hb : EvD K π tb σ H0 (· = .int b)) (hc : EvD K π tc σ H0 (· = .int c)) :
    EvD K π (tChain (rI0 fun i j => .bl (decide (i ≤ j))) (rI0 fun i j => .bl (decide (i ≤ j))) ta tb tc) σ H0 (· = .bool (decide (a ≤ b) && decide (b ≤ c))) := fun H1 o Q q => ha H1 o _ fun x d N H2 e1 s1 k1 => hb.mono s1.ex H2 (s1.okk o) _ fun y d2 N2 H3 e2 s2 k2 => by
  subst e1
  subst e2
  have S := s1.trans s2 o
  refine ⟨a, b, dp_int k1, dp_int k2, decide (a ≤ b), rfl, ?_⟩
  by_cases h : a ≤ b
  · rw [decide_eq_true h, if_pos rfl]
    refine hc.mono (s1.ex.trans s2.ex) H3 (S.okk o) _ fun z d3 N3 H4 e3 s3 k3 => ?_
    subst e3
    refine ⟨b, c, dp_int k2, dp_int k3, q _ _ N3 H4 ?_ (S.trans s3 o) (.bl _)⟩
    rw [decide_eq_true h]
    rfl
  · rw [decide_eq_false h, if_neg Bool.false_ne_true]
    refine q _ _ N2 H3 ?_ S (.bl false)
    rw [decide_eq_false h]
    rfl
end
/-! ### a text against any value -/
section
variable {prog : Program} {w : World} {A : Around} {E : Value → Shared → Prop} {s : Shared}
theorem str_not_dict : isSubtype (.type "str") (.type "dict") = pure false := by rw [isSubtype_type]; kernel_rfl
theorem dict_no_str {l : Addr} {o : Obj} {b : Str} {u : Tok} {es : Array DictEntry} {n : Nat} {Q : Value → Shared → Prop} (ho : s.heap.get? l = some o) (hx : o.ExactDict) (hd : o.data = .dict es n) (hu : A.units < cLine) (h : Q (.bool false) s) :
    wpAny (model prog w) A (richCompare .Eq (.ref l) (.str b u)) Q E s := by
  obtain ⟨cls, dd, data, sl⟩ := o
  obtain ⟨x1, x2, x3⟩ := hx
  simp only at x1 x2 x3 hd
  subst x1 x2 x3 hd
  have m1 : Meets (Builtin.«dict.__eq__» ⟨[.ref l, .str b u], []⟩) (fun _ R s => s.heap.get? l = some { cls := .type "dict", dict := none, data := .dict es n, slots := #[] } ∧ R (.ok (.ret .notImplemented)) s) :=
    .of_wp fun prog w A R s h => by
      obtain ⟨hp, g, d, tk, os⟩ := s
      obtain ⟨hl, h⟩ := h
      have f1 := str_not_dict
      wp_walk using wpAny_loadPart' hl
      exact ⟨_, rfl, h⟩
  have m2 : Meets (Builtin.«str.__eq__» ⟨[.str b u, .ref l], []⟩) (fun _ R s => s.heap.get? l = some { cls := .type "dict", dict := none, data := .dict es n, slots := #[] } ∧ R (.ok (.ret .notImplemented)) s) :=
    .of_wp fun prog w A R s h => by
      obtain ⟨hp, g, d, tk, os⟩ := s
      obtain ⟨hl, h⟩ := h
      wp_walk using wpAny_loadPart' hl, wpAny_load hl
      exact ⟨_, rfl, h⟩
  exact SeqAt.rc_eq_decline_or (k := false) ⟨_, ho, rfl⟩ (typeIs_str s b u) (by decide) str_not_dict PySem.F.slot_dict_eq PySem.F.slot_str_eq_refl
    (fun _ hq => call_meets PySem.F.slot_dict_eq ⟨_, ho, rfl⟩ PySem.F.entry_dict_eq (PySem.F.args_dict_eq_2 _ _) m1 ⟨ho, hq⟩)
    (fun _ hq => call_meets PySem.F.slot_str_eq_refl (typeIs_str s b u) PySem.F.entry_str_eq (PySem.F.args_str_eq_2 _ _) m2 ⟨ho, hq⟩)
    (fun _ hq => wpAny_of_eq (rfl : isSame (.ref l) (.str b u) = pure false) hq) (.inr hu) h
end
end Dl

set_option maxRecDepth 100000
set_option maxHeartbeats 4000000
namespace Dl
open PySem PySem.Spec PyProof.Rows L2 Gd Dt
open Evl (Ex Ex.refl Ex.trans Ex.new ex_l ex_t sq_of st_of fresh_back)
open PySem.AutoSeq1 (wpAny_loadPart')
/-- whether a value is this text -/
def isTxt (z : Str) : PyData → Bool
  | .str x => x == z
  | _ => false
section
variable {prog : Program} {w : World} {A : Around} {E : Value → Shared → Prop} {s : Shared}
theorem str_dict {l : Addr} {o : Obj} {b : Str} {u : Tok} {es : Array DictEntry} {n : Nat} {Q : Value → Shared → Prop} (ho : s.heap.get? l = some o) (hx : o.ExactDict) (hd : o.data = .dict es n) (hu : A.units < cLine) (h : Q (.bool false) s) :
    wpAny (model prog w) A (richCompare .Eq (.str b u) (.ref l)) Q E s := by
  obtain ⟨cls, dd, data, sl⟩ := o
  obtain ⟨x1, x2, x3⟩ := hx
  simp only at x1 x2 x3 hd
  subst x1 x2 x3 hd
  have m1 : Meets (Builtin.«dict.__eq__» ⟨[.ref l, .str b u], []⟩) (fun _ R s => s.heap.get? l = some { cls := .type "dict", dict := none, data := .dict es n, slots := #[] } ∧ R (.ok (.ret .notImplemented)) s) :=
    .of_wp fun prog w A R s h => by
      obtain ⟨hp, g, d, tk, os⟩ := s
      obtain ⟨hl, h⟩ := h
      have f1 := str_not_dict
      wp_walk using wpAny_loadPart' hl
      exact ⟨_, rfl, h⟩
  have m2 : Meets (Builtin.«str.__eq__» ⟨[.str b u, .ref l], []⟩) (fun _ R s => s.heap.get? l = some { cls := .type "dict", dict := none, data := .dict es n, slots := #[] } ∧ R (.ok (.ret .notImplemented)) s) :=
    .of_wp fun prog w A R s h => by
      obtain ⟨hp, g, d, tk, os⟩ := s
      obtain ⟨hl, h⟩ := h
      wp_walk using wpAny_loadPart' hl, wpAny_load hl
      exact ⟨_, rfl, h⟩
  have nsub : isSubtype (.type "dict") (.type "str") = pure false := by rw [isSubtype_type]; kernel_rfl
  exact SeqAt.rc_eq_decline_or (k := false) (typeIs_str s b u) ⟨_, ho, rfl⟩ (by decide) nsub PySem.F.slot_str_eq PySem.F.slot_dict_eq_refl
    (fun _ hq => call_meets PySem.F.slot_str_eq (typeIs_str s b u) PySem.F.entry_str_eq (PySem.F.args_str_eq_2 _ _) m2 ⟨ho, hq⟩)
    (fun _ hq => call_meets PySem.F.slot_dict_eq_refl ⟨_, ho, rfl⟩ PySem.F.entry_dict_eq (PySem.F.args_dict_eq_2 _ _) m1 ⟨ho, hq⟩)
    (fun _ hq => wpAny_of_eq (rfl : isSame (.str b u) (.ref l) = pure false) hq) (.inr hu) h
end
section
variable {X : Cx} {pins : List (Addr × Obj)} {σ : L2.St} {H : Hp} {s : Shared} {v : V} {u : Value} {d : PyData} {z : Str} {t : Tok} {A : Around}
theorem dict_at (I : Inv X pins σ H s) {a : Addr} (h : H a = some (.dK [])) : ∃ o es n, s.heap.get? a = some o ∧ o.ExactDict ∧ o.data = .dict es n := by
  obtain ⟨_, _, vs, _, hD⟩ := dk_of I.hok h
  obtain ⟨o, es, ep, ho, hx, hd, _⟩ := hD
  exact ⟨o, es, ep, ho, hx, hd⟩
theorem txt_right (I : Inv X pins σ H s) (h : Da X.K H v d) (n : noErr d = true) (r : RelV v u) (hu : A.units < cLine) : SeqAt.RcAt A s u (.str z t) (isTxt z d) := by
  cases h with
  | non => cases r; exact SeqAt.RcAt.none_str z t
  | bl q => cases r; exact SeqAt.RcAt.bool_str q z t
  | int q => obtain ⟨k, rfl⟩ := r; exact SeqAt.RcAt.int_str q k z t
  | str q => obtain ⟨k, rfl⟩ := r; exact SeqAt.RcAt.str_str q k z t
  | lst hs m =>
    cases r
    obtain ⟨its, rv, p, _⟩ := I.list hs
    exact SeqAt.RcAt.list_str z t p.isList hu
  | tup hs m =>
    cases r
    obtain ⟨its, rv, p, _⟩ := I.tuple hs
    exact SeqAt.RcAt.tuple_str z t p hu
  | emp hs =>
    cases r
    obtain ⟨o, es, k, h1, h2, h3⟩ := dict_at I hs
    exact fun prog w E Q q => dict_no_str h1 h2 h3 hu q
  | er0 _ => cases n
  | err _ _ _ _ => cases n
theorem txt_left (I : Inv X pins σ H s) (h : Da X.K H v d) (n : noErr d = true) (r : RelV v u) (hu : A.units < cLine) : SeqAt.EqAt A s (.str z t) u (isTxt z d) := by
  cases h with
  | non => cases r; exact SeqAt.EqAt.str_none z t
  | bl q => cases r; exact SeqAt.EqAt.str_bool z t q
  | int q => obtain ⟨k, rfl⟩ := r; exact SeqAt.EqAt.str_int z t q k
  | str q =>
    obtain ⟨k, rfl⟩ := r
    have e : isTxt z (.str q) = (z == q) := by
      show (q == z) = (z == q)
      by_cases c : q = z
      · rw [c]
      · have c1 : (q == z) = false := by simpa using c
        have c2 : (z == q) = false := by simpa using Ne.symm c
        rw [c1, c2]
    rw [e]
    exact SeqAt.EqAt.str_str z t q k
  | lst hs m =>
    cases r
    obtain ⟨its, rv, p, _⟩ := I.list hs
    exact SeqAt.EqAt.str_list z t p.isList hu
  | tup hs m =>
    cases r
    obtain ⟨its, rv, p, _⟩ := I.tuple hs
    exact SeqAt.EqAt.str_tuple z t p hu
  | @emp a hs =>
    cases r
    obtain ⟨o, es, k, h1, h2, h3⟩ := dict_at I hs
    intro prog w E Q q
    unfold eqBool
    apply wpAny_holding
    refine wpAny_ite_split (fun hab => absurd (eq_of_beq hab) nofun) (fun _ => ?_)
    exact wpAny_bind (str_dict h1 h2 h3 hu (wpAny_truthy_bool q))
  | er0 _ => cases n
  | err _ _ _ _ => cases n
end
/-- v == a text; v in a tuple of texts -/
def rEqT (K : PySem.W.Frag) : R2 := fun x y H Q => ∃ d z, Da K H x d ∧ noErr d = true ∧ y = .str z ∧ Q (.bl (isTxt z d)) H
def rInT (K : PySem.W.Frag) : R2 := fun x y H Q => ∃ (d : PyData) (p : Addr) (zs : List Str), Da K H x d ∧ noErr d = true ∧ y = .ref p ∧ SqT K H p (zs.map V.str) ∧ Q (.bl (zs.any fun z => isTxt z d)) H
section
variable {X : Cx} {K : PySem.W.Frag} {π : Option Pn} {σ : L2.St} {H0 H : Hp} {ta tb : TE} {d : PyData}
theorem op_eqT (hu : X.A.units + 64 < cLine) : OpR X (compareOp .Eq) (rEqT X.K) := by
  intro pins s σ H x y v u Q I rx ry h
  obtain ⟨d, z, hd, n, rfl, q⟩ := h
  obtain ⟨t, rfl⟩ := ry
  exact txt_right I hd n rx (by omega) X.prog X.w _ _ ⟨.bl _, H, I, rfl, q⟩
theorem strs_are : ∀ {zs : List Str} {us : List Value}, Vals (zs.map V.str) us → us.length = zs.length ∧ ∀ (f : Str → Bool) (g : Value → Bool), (∀ z t, g (.str z t) = f z) → us.any g = zs.any f
  | [], _, .nil => ⟨rfl, fun f g h => rfl⟩
  | z :: zs, _, .cons r q => by
    obtain ⟨t, rfl⟩ := r
    obtain ⟨h1, h2⟩ := strs_are q
    exact ⟨by rw [List.length_cons, List.length_cons, h1], fun f g h => by rw [List.any_cons, List.any_cons, h z t, h2 f g h]⟩
theorem strs_all : ∀ {zs : List Str} {us : List Value}, Vals (zs.map V.str) us → ∀ x ∈ us, ∃ z t, x = Value.str z t
  | [], _, .nil, _, hx => by cases hx
  | z :: zs, _, .cons r q, x, hx => by
    rcases List.mem_cons.mp hx with e | hx
    · obtain ⟨t, rfl⟩ := r
      exact ⟨z, t, e⟩
    · exact strs_all q x hx
theorem op_inT (hu : X.A.units + 64 < cLine) : OpR X (compareOp .In) (rInT X.K) := by
  intro pins s σ H x y v u Q I rx ry h
  obtain ⟨d, p, zs, hd, n, rfl, hp, q⟩ := h
  cases ry
  obtain ⟨its, rv, pl, _⟩ := I.tuple hp
  let g : Value → Bool := fun y => match y with
    | .str z _ => isTxt z d
    | _ => false
  refine SeqAt.in_tupleAt g pl (fun y hy => ?_) ⟨.bl _, H, I, rfl, ?_⟩
  · obtain ⟨z, t, rfl⟩ := strs_all rv y (by simpa using hy)
    exact txt_left I hd n rx (by show X.A.units + 1 < cLine; omega)
  · have e : its.toArray.any g = zs.any fun z => isTxt z d := by
      rw [← (strs_are rv).2 (fun z => isTxt z d) g fun z t => rfl]
      simp
    rw [e]
    exact q
theorem od_eqT {z : Str} (n : noErr d = true) : OpD K π (rEqT K) d (.str z) (· = .bool (isTxt z d)) :=
  opd_val (v := .bl (isTxt z d)) (fun _ => .bl _) fun x y H Q hx hy q => ⟨d, z, hx, n, dp_str hy, q⟩
theorem strs_da : ∀ {zs : List Str} {vs : List V}, DaAll K H vs (zs.map .str) → vs = zs.map V.str
  | [], _, h => by cases h; rfl
  | z :: zs, _, .cons h1 h2 => by rw [dp_str h1, strs_da h2]; rfl
theorem od_inT {zs : List Str} (n : noErr d = true) : OpD K π (rInT K) d (.tuple (zs.map .str)) (· = .bool (zs.any fun z => isTxt z d)) :=
  opd_val (v := .bl (zs.any fun z => isTxt z d)) (fun _ => .bl _) fun x y H Q hx hy q => by
    obtain ⟨a, xs, rfl, hs, hd⟩ := dp_tup hy
    rw [strs_da hd] at hs
    exact ⟨d, a, zs, hx, n, rfl, hs, q⟩
end
end Dl

set_option maxRecDepth 100000
set_option maxHeartbeats 4000000
namespace Ee
open PySem PySem.Spec PyProof.Rows L2 Gd Dt Dl
open Evl (Ex Ex.refl Ex.trans Ex.new ex_l ex_t sq_of st_of fresh_back)
/-- a tuple == (), whatever lies in the tuple -/
def rEq0 (K : PySem.W.Frag) : R2 := fun x y H Q => ∃ (p q : Addr) (xs : List V), x = .ref p ∧ y = .ref q ∧ SqT K H p xs ∧ SqT K H q [] ∧ Q (.bl xs.isEmpty) H
section
variable {X : Cx} {K : PySem.W.Frag} {π : Option Pn}
theorem op_eq0 (hu : X.A.units + 64 < cLine) : OpR X (compareOp .Eq) (rEq0 X.K) := by
  intro pins s σ H x y v u Q I rx ry h
  obtain ⟨p, q, xs, rfl, rfl, hp, hq, k⟩ := h
  cases rx
  cases ry
  obtain ⟨its, rv, pl, _⟩ := I.tuple hp
  obtain ⟨it2, rv2, pl2, _⟩ := I.tuple hq
  cases rv2
  refine SeqAt.eq_tupleAt (e := fun _ => true) pl pl2 (by omega) (fun j h1 h2 => absurd h2 (Nat.not_lt_zero j)) ⟨.bl _, H, I, rfl, ?_⟩
  have e : ((List.range (min its.toArray.size ([] : List Value).toArray.size)).all (fun _ => true) && its.toArray.size == ([] : List Value).toArray.size) = xs.isEmpty := by
    cases rv <;> simp
  rw [e]
  exact k
theorem od_eq0 {ds : List PyData} : OpD K π (rEq0 K) (.tuple ds) (.tuple []) (· = .bool ds.isEmpty) :=
  opd_val (v := .bl ds.isEmpty) (fun _ => .bl _) fun x y H Q hx hy k => by
    obtain ⟨p, xs, rfl, hs, hd⟩ := dp_tup hx
    obtain ⟨q, ys, rfl, hq, he⟩ := dp_tup hy
    cases he
    refine ⟨p, q, xs, rfl, rfl, hs, hq, ?_⟩
    cases hd <;> exact k
end
end Ee

set_option maxRecDepth 100000
set_option maxHeartbeats 4000000
/-! what a set asks of nested data: hash, equality, small questions -/
namespace Sd
open PySem PySem.Spec PyProof.Rows L2

mutual
/-- whole numbers, texts, tuples of such -/
def keyD : PyData → Bool
  | .int _ => true
  | .str x => PyData.strOk x
  | .tuple ds => keyDs ds
  | _ => false
def keyDs : List PyData → Bool
  | [] => true
  | d :: ds => keyD d && keyDs ds
end
mutual
def hashD (w : World) : PyData → Int
  | .int i => hashInt i
  | .str x => hashStr w x
  | .tuple ds => reduceHash (Builtin.Tuple.tupleHashOf (hashDs w ds))
  | _ => 0
def hashDs (w : World) : List PyData → List Int
  | [] => []
  | d :: ds => hashD w d :: hashDs w ds
end
mutual
theorem keyD_lay : ∀ d : PyData, keyD d = true → d.canLay0 = true
  | .int _, _ => rfl
  | .str x, h => by simpa only [keyD, PyData.canLay0] using h
  | .tuple ds, h => by
    simp only [keyD] at h
    simpa only [PyData.canLay0] using keyDs_lay ds h
  | .none, h => by cases h
  | .bool _, h => by cases h
  | .list _, h => by cases h
  | .dict _, h => by cases h
theorem keyDs_lay : ∀ ds : List PyData, keyDs ds = true → PyData.canLayAll0 ds = true
  | [], _ => rfl
  | d :: ds, h => by
    simp only [keyDs, Bool.and_eq_true] at h
    simp only [PyData.canLayAll0, keyD_lay d h.1, keyDs_lay ds h.2, Bool.and_self]
end
/-- among such data equality is sameness -/
theorem eqv_key : ∀ n : Nat, (∀ d e : PyData, sizeOf d ≤ n → keyD d = true → keyD e = true → (PyData.eqv d e = true ↔ d = e)) ∧ (∀ ds es : List PyData, sizeOf ds ≤ n → keyDs ds = true → keyDs es = true → (PyData.eqvAll ds es = true ↔ ds = es)) := by
  intro n
  induction n with
  | zero =>
    refine ⟨fun d e h => ?_, fun ds es h => ?_⟩
    · cases d <;> simp at h
    · cases ds <;> simp at h
  | succ n ih =>
    refine ⟨fun d e h kd ke => ?_, fun ds es h kd ke => ?_⟩
    · cases d with
      | int i =>
        cases e with
        | int j => simp [PyData.eqv]
        | str y => simp [PyData.eqv]
        | tuple es => simp [PyData.eqv]
        | none => cases ke
        | bool b => cases ke
        | list es => cases ke
        | dict es => cases ke
      | str x =>
        cases e with
        | int j => simp [PyData.eqv]
        | str y => simp [PyData.eqv]
        | tuple es => simp [PyData.eqv]
        | none => cases ke
        | bool b => cases ke
        | list es => cases ke
        | dict es => cases ke
      | tuple ds =>
        cases e with
        | int j => simp [PyData.eqv]
        | str y => simp [PyData.eqv]
        | tuple es =>
          simp only [keyD] at kd ke
          have := ih.2 ds es (by simp at h; omega) kd ke
          simp only [PyData.eqv, this, PyData.tuple.injEq]
        | none => cases ke
        | bool b => cases ke
        | list es => cases ke
        | dict es => cases ke
      | none => cases kd
      | bool b => cases kd
      | list es => cases kd
      | dict es => cases kd
    · cases ds with
      | nil => cases es <;> simp [PyData.eqvAll]
      | cons d ds =>
        cases es with
        | nil => simp [PyData.eqvAll]
        | cons e es =>
          simp only [keyDs, Bool.and_eq_true] at kd ke
          simp at h
          have h1 := ih.1 d e (by omega) kd.1 ke.1
          have h2 := ih.2 ds es (by omega) kd.2 ke.2
          simp only [PyData.eqvAll, Bool.and_eq_true, h1, h2, List.cons.injEq]
theorem eqv_same {d e : PyData} (kd : keyD d = true) (ke : keyD e = true) : PyData.eqv d e = true ↔ d = e := (eqv_key (sizeOf d)).1 d e (Nat.le_refl _) kd ke

/-- a value is such data -/
def IsD (h : Heap) (d : PyData) (v : Value) : Prop := ∃ as, Reads h v d as
theorem reads_keep {h h' : Heap} (k : ∀ b o, h.get? b = some o → h'.get? b = some o) : ∀ n : Nat, (∀ (d : PyData) (v : Value) (as : List Addr), sizeOf d ≤ n → Reads h v d as → Reads h' v d as) ∧ (∀ (ds : List PyData) (vs : List Value) (as : List Addr), sizeOf ds ≤ n → ReadsAll h vs ds as → ReadsAll h' vs ds as) := by
  intro n
  induction n with
  | zero =>
    refine ⟨fun d v as hd => ?_, fun ds v as hd => ?_⟩
    · cases d <;> simp at hd
    · cases ds <;> simp at hd
  | succ n ih =>
    refine ⟨fun d v as hd r => ?_, fun ds v as hd r => ?_⟩
    · cases r with
      | none => exact .none
      | bool b => exact .bool b
      | int i t => exact .int i t
      | str x t => exact .str x t
      | list h1 h2 h3 h4 => exact .list (k _ _ h1) h2 h3 (ih.2 _ _ _ (by simp at hd; omega) h4)
      | tuple h1 h2 h3 h4 => exact .tuple (k _ _ h1) h2 h3 (ih.2 _ _ _ (by simp at hd; omega) h4)
      | @dict a o es n' kvs as bs h1 h2 h3 h4 h5 =>
        have l1 : ∀ kvs : List (PyData × PyData), sizeOf (kvs.map (·.1)) ≤ sizeOf kvs ∧ sizeOf (kvs.map (·.2)) ≤ sizeOf kvs := fun kvs => by
          induction kvs with
          | nil => exact ⟨Nat.le_refl _, Nat.le_refl _⟩
          | cons p r ih2 =>
            obtain ⟨a, b⟩ := p
            simp
            omega
        have := l1 kvs
        exact .dict (k _ _ h1) h2 h3 (ih.2 _ _ _ (by simp at hd; omega) h4) (ih.2 _ _ _ (by simp at hd; omega) h5)
    · cases r with
      | nil => exact .nil
      | cons h1 h2 => exact .cons (ih.1 _ _ _ (by simp at hd; omega) h1) (ih.2 _ _ _ (by simp at hd; omega) h2)
theorem IsD.keep {h h' : Heap} {d : PyData} {v : Value} (x : IsD h d v) (k : ∀ b o, h.get? b = some o → h'.get? b = some o) : IsD h' d v := by
  obtain ⟨as, r⟩ := x
  exact ⟨as, (reads_keep k _).1 d v as (Nat.le_refl _) r⟩
theorem IsD.inj {h : Heap} {d e : PyData} {v : Value} (kd : keyD d = true) (x : IsD h d v) (y : IsD h e v) : d = e := by
  obtain ⟨as, r⟩ := x
  obtain ⟨bs, q⟩ := y
  exact SeqAt.Reads.unique d e v as bs (keyD_lay d kd) r q

section
variable {P : Program} {w : World} {E : Value → Shared → Prop}
/-- the hash of such data -/
theorem hash_ok {h : Heap} : ∀ n : Nat, (∀ (d : PyData) (v : Value) (as : List Addr) (A : Around) (s : Shared) (Q : Int → Shared → Prop), sizeOf d ≤ n → keyD d = true → Reads h v d as → s.heap = h → A.units + d.depth < cLine →
      (∀ tk, s.toks ≤ tk → Q (hashD w d) { s with toks := tk }) → wpAny (model P w) A (pyHash v) Q E s) ∧
    (∀ (ds : List PyData) (vs : List Value) (as : List Addr) (A : Around) (s : Shared) (acc : Array Int) (Q : Array Int → Shared → Prop), sizeOf ds ≤ n → keyDs ds = true → ReadsAll h vs ds as → s.heap = h → A.units + PyData.depthAll ds < cLine →
      (∀ (tk : Nat) (out : Array Int), s.toks ≤ tk → out.toList = acc.toList ++ hashDs w ds → Q out { s with toks := tk }) → wpAny (model P w) A (forIn vs acc fun x r => do let h ← pyHash x; pure (ForInStep.yield (r.push h))) Q E s) := by
  intro n
  induction n with
  | zero =>
    refine ⟨fun d v as A s Q hd => ?_, fun ds vs as A s acc Q hd => ?_⟩
    · cases d <;> simp at hd
    · cases ds <;> simp at hd
  | succ n ih =>
    refine ⟨fun d v as A s Q hd kd r hs hu q => ?_, fun ds vs as A s acc Q hd kd r hs hu q => ?_⟩
    · cases r with
      | none => cases kd
      | bool b => cases kd
      | int i t => exact wpAny_pyHash_int (q _ (by first | exact Nat.le_refl _ | exact Nat.le_succ _ | exact Nat.le_add_right _ _))
      | str x t => exact wpAny_pyHash_str (q _ (by first | exact Nat.le_refl _ | exact Nat.le_succ _ | exact Nat.le_add_right _ _))
      | list h1 h2 h3 h4 => cases kd
      | dict h1 h2 h3 h4 h5 => cases kd
      | @tuple a o vs c ds as h1 h2 h3 h4 =>
        subst hs
        have hT : s.TypeIs (.ref a) "tuple" := ⟨o, h1, h2⟩
        simp only [PyData.depth] at hu
        simp only [keyD] at kd
        unfold pyHash
        first | unfold pyHashByItsType | skip
        first | refine wpAny_bind (wpAny_cRoomFor_or (.inr (by omega)) ?_) | skip
        apply wpAny_bind
        apply wpAny_specialOf hT F.slot_tuple_hash.lookup
        show wpAny _ _ (if (some (Value.builtin "tuple.__hash__") == some Value.none) = true then _ else _) Q E s
        rw [if_neg (by rw [beq_builtin_none]; exact Bool.false_ne_true)]
        apply wpAny_bind
        apply wpAny_specialOf hT F.slot_tuple_hash.lookup
        show wpAny _ _ (callSpecialIfBoundUnlessNone? (.ref a) "__hash__" _ >>= _) Q E s
        apply wpAny_bind
        refine wpAny_callSpecialIfBoundUnlessNone?_slot hT F.slot_tuple_hash (wpAny_call_entry F.slot_tuple_hash hT F.entry_tuple_hash ?_ (F.args_tuple_hash_1 _))
        show wpAny _ _ (Builtin.Tuple.tupleItemsOf (.ref a) >>= _) _ _ s
        apply wpAny_bind
        apply wpAny_tupleItemsOf h1 h3
        apply wpAny_bind
        rw [← Array.forIn_toList]
        refine ih.2 ds vs.toList as A.in1 s #[] _ (by simp at hd; omega) kd h4 rfl (by show A.units + 1 + _ < _; omega) fun tk out htk hout => ?_
        show wpAny _ _ (retInt (Builtin.Tuple.tupleHashOf out.toList)) _ _ _
        rw [hout]
        apply wpAny_ret_mkInt
        have q' := q
        simp only [hashD] at q'
        show wpAny _ _ (if (decide (-(2 : Int) ^ 63 ≤ Builtin.Tuple.tupleHashOf (hashDs w ds)) && decide (Builtin.Tuple.tupleHashOf (hashDs w ds) < 2 ^ 63)) = true then _ else _) Q E _
        unfold reduceHash at q'
        by_cases hr : (decide (-(2 : Int) ^ 63 ≤ Builtin.Tuple.tupleHashOf (hashDs w ds)) && decide (Builtin.Tuple.tupleHashOf (hashDs w ds) < 2 ^ 63)) = true
        · rw [if_pos hr]
          rw [if_pos hr] at q'
          exact wpAny_pure (q' _ (Nat.le_trans htk (Nat.le_succ _)))
        · rw [if_neg hr]
          rw [if_neg hr] at q'
          exact wpAny_bind (wpAny_rule (wpAny_pure (q' _ (Nat.le_trans htk (Nat.le_succ _)))))
    · cases r with
      | nil => exact wpAny_pure (q s.toks acc (Nat.le_refl _) (by simp [hashDs]))
      | @cons v vs d ds as bs r1 r2 =>
        simp only [keyDs, Bool.and_eq_true] at kd
        simp only [PyData.depthAll] at hu
        rw [List.forIn_cons]
        apply wpAny_bind
        apply wpAny_bind
        refine ih.1 d v as A s _ (by simp at hd; omega) kd.1 r1 hs (by omega) fun tk htk => ?_
        apply wpAny_pure
        refine ih.2 ds vs bs A { s with toks := tk } (acc.push (hashD w d)) Q (by simp at hd; omega) kd.2 r2 hs (by omega) fun tk2 out htk2 hout => ?_
        refine q tk2 out (Nat.le_trans htk htk2) ?_
        rw [hout]
        simp [hashDs]
end
end Sd

set_option maxRecDepth 100000
set_option maxHeartbeats 4000000
namespace Sd
open PySem PySem.Spec PyProof.Rows L2
section
variable {P : Program} {w : World} {A : Around} {E : Value → Shared → Prop}
/-- what is asked of each item of a loop that ends at once if one is otherwise -/
theorem all_loop {s : Shared} {γ : Type} {f : Value → Sem Bool} {stop : γ} {b0 : Bool} {vs : List Value} {Q : Option γ × Unit → Shared → Prop} (hf : ∀ v ∈ vs, ∀ (Q : Bool → Shared → Prop), Q b0 s → wpAny (model P w) A (f v) Q E s)
    {body : Value → Option γ × Unit → Sem (ForInStep (Option γ × Unit))} (hb : ∀ v r (Q : ForInStep (Option γ × Unit) → Shared → Prop), v ∈ vs → r.1 = none → (∀ r', r'.1 = none → Q (.yield r') s) → wpAny (model P w) A (body v r) Q E s)
    (r : Option γ × Unit) (hr : r.1 = none) (q : ∀ r', r'.1 = none → Q r' s) : wpAny (model P w) A (forIn vs r body) Q E s := by
  refine wpAny_forIn_list _ (fun rest r s' => r.1 = none ∧ s' = s ∧ ∀ v ∈ rest, v ∈ vs) _ ?_ ?_ _ _ ⟨hr, rfl, fun v h => h⟩
  · rintro v rest r s' ⟨hr, rfl, hm⟩
    exact hb v r _ (hm v List.mem_cons_self) hr fun r' h' => ⟨h', rfl, fun u hu => hm u (List.mem_cons_of_mem _ hu)⟩
  · rintro r s' ⟨hr, rfl, _⟩
    exact q r hr
theorem mem_reads {h : Heap} : ∀ {ds : List PyData} {vs : List Value} {as : List Addr}, ReadsAll h vs ds as → ∀ v ∈ vs, ∃ d ∈ ds, IsD h d v
  | [], _, _, r => fun v hv => by
    cases r
    cases hv
  | d :: ds, _, _, r => fun v hv => by
    cases r with
    | cons r1 r2 =>
      rcases List.mem_cons.mp hv with rfl | hv
      · exact ⟨d, List.mem_cons_self, _, r1⟩
      · obtain ⟨e, he, hi⟩ := mem_reads r2 v hv
        exact ⟨e, List.mem_cons_of_mem _ he, hi⟩
theorem keyDs_mem : ∀ {ds : List PyData}, keyDs ds = true → ∀ d ∈ ds, keyD d = true
  | [], _, d, hd => by cases hd
  | e :: ds, h, d, hd => by
    simp only [keyDs, Bool.and_eq_true] at h
    rcases List.mem_cons.mp hd with rfl | hd
    · exact h.1
    · exact keyDs_mem h.2 d hd
theorem depth_mem : ∀ {ds : List PyData}, ∀ d ∈ ds, d.depth ≤ PyData.depthAll ds
  | [], d, hd => by cases hd
  | e :: ds, d, hd => by
    simp only [PyData.depthAll]
    rcases List.mem_cons.mp hd with rfl | hd
    · omega
    · have := depth_mem d hd
      omega
theorem quiet_ok {s : Shared} : ∀ (n : Nat) (d : PyData) (v : Value) (Q : Bool → Shared → Prop), d.depth ≤ n → keyD d = true → IsD s.heap d v → Q true s → wpAny (model P w) A (eqIsQuiet n v) Q E s := by
  intro n
  induction n with
  | zero =>
    intro d v Q hd kd ⟨as, r⟩ q
    cases r with
    | int i t => exact wpAny_pure q
    | str x t => exact wpAny_pure q
    | tuple => simp [PyData.depth] at hd
    | none => cases kd
    | bool => cases kd
    | list => cases kd
    | dict => cases kd
  | succ n ih =>
    intro d v Q hd kd ⟨as, r⟩ q
    cases r with
    | int i t => exact wpAny_pure q
    | str x t => exact wpAny_pure q
    | none => cases kd
    | bool => cases kd
    | list => cases kd
    | dict => cases kd
    | @tuple a o vs c ds as h1 h2 h3 h4 =>
      have hT : s.TypeIs (.ref a) "tuple" := ⟨o, h1, h2⟩
      simp only [PyData.depth] at hd
      simp only [keyD] at kd
      unfold eqIsQuiet
      apply wpAny_bind
      apply wpAny_specialOf hT F.slot_tuple_eq.lookup
      show wpAny _ _ (isInstance (.ref a) (.type "tuple") >>= _) _ _ s
      apply wpAny_bind
      apply wpAny_isInstance hT isSubtype_tuple_tuple
      simp only [Bool.not_true, Bool.false_eq_true, if_false]
      apply wpAny_bind
      apply wpAny_seqItems h1 h3
      apply wpAny_bind
      show wpAny _ _ (forIn vs _ _) _ _ s
      rw [← Array.forIn_toList]
      refine all_loop (stop := false) (b0 := true) (f := eqIsQuiet n) (fun v hv Q q => ?_) (fun v r Q hv hr q => ?_) _ rfl fun r' h' => ?_
      · obtain ⟨e, he, hi⟩ := mem_reads h4 v hv
        have := depth_mem e he
        exact ih e v Q (by omega) (keyDs_mem kd e he) hi q
      · obtain ⟨e, he, hi⟩ := mem_reads h4 v hv
        have := depth_mem e he
        apply wpAny_bind
        refine ih e v _ (by omega) (keyDs_mem kd e he) hi ?_
        simp only [Bool.not_true, Bool.false_eq_true, if_false]
        exact wpAny_pure (q _ rfl)
      · obtain ⟨r1, r2⟩ := r'
        simp only at h'
        subst h'
        exact wpAny_pure q
theorem class_ok {s : Shared} : ∀ (n : Nat) (d : PyData) (v : Value) (Q : Bool → Shared → Prop), d.depth ≤ n → keyD d = true → IsD s.heap d v → Q false s → wpAny (model P w) A (ofAClassStatement n v) Q E s := by
  intro n
  induction n with
  | zero =>
    intro d v Q hd kd ⟨as, r⟩ q
    cases r with
    | int i t => exact wpAny_pure q
    | str x t => exact wpAny_pure q
    | tuple => simp [PyData.depth] at hd
    | none => cases kd
    | bool => cases kd
    | list => cases kd
    | dict => cases kd
  | succ n ih =>
    intro d v Q hd kd ⟨as, r⟩ q
    cases r with
    | int i t => exact wpAny_pure q
    | str x t => exact wpAny_pure q
    | none => cases kd
    | bool => cases kd
    | list => cases kd
    | dict => cases kd
    | @tuple a o vs c ds as h1 h2 h3 h4 =>
      have hT : s.TypeIs (.ref a) "tuple" := ⟨o, h1, h2⟩
      simp only [PyData.depth] at hd
      simp only [keyD] at kd
      unfold ofAClassStatement
      apply wpAny_bind
      apply wpAny_typeOf hT
      dsimp only
      have e : (("tuple" : String) == "tuple") = true := by decide
      simp only [e, if_true, Bool.not_true, Bool.false_eq_true, if_false]
      try refine wpAny_bind (wpAny_pure ?_)
      try simp only [Bool.not_true, Bool.false_eq_true, if_false]
      show wpAny _ _ (seqItems? (.ref a) >>= _) _ _ s
      apply wpAny_bind
      apply wpAny_seqItems h1 h3
      dsimp only
      apply wpAny_bind
      show wpAny _ _ (forIn vs _ _) _ _ s
      rw [← Array.forIn_toList]
      refine all_loop (stop := true) (b0 := false) (f := ofAClassStatement n) (fun v hv Q q => ?_) (fun v r Q hv hr q => ?_) _ rfl fun r' h' => ?_
      · obtain ⟨e, he, hi⟩ := mem_reads h4 v hv
        have := depth_mem e he
        exact ih e v Q (by omega) (keyDs_mem kd e he) hi q
      · obtain ⟨e, he, hi⟩ := mem_reads h4 v hv
        have := depth_mem e he
        apply wpAny_bind
        refine ih e v _ (by omega) (keyDs_mem kd e he) hi ?_
        simp only [Bool.false_eq_true, if_false]
        exact wpAny_pure (q _ rfl)
      · obtain ⟨r1, r2⟩ := r'
        simp only at h'
        subst h'
        exact wpAny_pure q
/-- whether the hash hangs on the value alone: some answer -/
theorem byValue_ok {s : Shared} : ∀ (n : Nat) (d : PyData) (v : Value) (Q : Bool → Shared → Prop), keyD d = true → IsD s.heap d v → (∀ b, Q b s) → wpAny (model P w) A (hashByValue n v) Q E s := by
  intro n
  induction n with
  | zero =>
    intro d v Q kd ⟨as, r⟩ q
    cases r with
    | int i t => exact wpAny_pure (q _)
    | str x t => exact wpAny_pure (q _)
    | tuple => exact wpAny_pure (q _)
    | none => cases kd
    | bool => cases kd
    | list => cases kd
    | dict => cases kd
  | succ n ih =>
    intro d v Q kd ⟨as, r⟩ q
    cases r with
    | int i t => exact wpAny_pure (q _)
    | str x t => exact wpAny_pure (q _)
    | none => cases kd
    | bool => cases kd
    | list => cases kd
    | dict => cases kd
    | @tuple a o vs c ds as h1 h2 h3 h4 =>
      have hT : s.TypeIs (.ref a) "tuple" := ⟨o, h1, h2⟩
      simp only [keyD] at kd
      unfold hashByValue
      apply wpAny_bind
      apply wpAny_specialOf hT F.slot_tuple_hash.lookup
      show wpAny _ _ (seqItems? (.ref a) >>= _) _ _ s
      apply wpAny_bind
      apply wpAny_seqItems h1 h3
      apply wpAny_bind
      show wpAny _ _ (forIn vs _ _) _ _ s
      rw [← Array.forIn_toList]
      refine wpAny_forIn_list _ (fun rest r s' => (r.1 = none ∨ r.1 = some false) ∧ s' = s ∧ ∀ v ∈ rest, v ∈ vs.toList) _ ?_ ?_ _ _ ⟨.inl rfl, rfl, fun v h => h⟩
      · rintro v rest r s' ⟨hr, rfl, hm⟩
        obtain ⟨e, he, hi⟩ := mem_reads h4 v (hm v List.mem_cons_self)
        apply wpAny_bind
        refine ih e v _ (keyDs_mem kd e he) hi fun b => ?_
        cases b with
        | true =>
          simp only [Bool.not_true, Bool.false_eq_true, if_false]
          exact wpAny_pure ⟨.inl rfl, rfl, fun u hu => hm u (List.mem_cons_of_mem _ hu)⟩
        | false =>
          simp only [Bool.not_false, if_true]
          first | exact wpAny_pure (wpAny_pure (q _)) | exact wpAny_pure (by show _; exact q _)
      · rintro ⟨r1, r2⟩ s' ⟨hr, rfl, _⟩
        rcases hr with hr | hr
        · simp only at hr
          subst hr
          exact wpAny_pure (q _)
        · simp only at hr
          subst hr
          exact wpAny_pure (q _)
end
end Sd

set_option maxRecDepth 100000
set_option maxHeartbeats 8000000
namespace Sd
open PySem PySem.Spec PyProof.Rows L2
/-! ### the way of a hash through a table -/
def prb (t : SetTable) (h : Int) (c : Nat) : SetTable.Probe := nth t.mask (runAt t.mask (SetTable.bits h % (t.mask + 1)) (SetTable.bits h)) c
theorem prb_j (t : SetTable) (h : Int) (c : Nat) : (prb t h c).j = way t.mask h c := rfl
theorem prb_more (t : SetTable) (h : Int) (c q : Nat) : nth t.mask (prb t h c) q = prb t h (c + q) := (nth_add t.mask c _ q).symm
theorem nth_none (m : Nat) : ∀ (n : Nat) (p : SetTable.Probe), p.dummy = none → (nth m p n).dummy = none
  | 0, _, h => h
  | n + 1, p, h => nth_none m n (adv m p) (by
    unfold adv
    split
    · exact h
    · exact h)
theorem probe_way {t : SetTable} {hs : List Int} (T : TabOk t hs) (ha : Nat → Int) {h : Int} {c K : Nat} (hc : c ≤ K) (hK : K < 10 * SetTable.turns t.mask) (out : way t.mask h K ∉ t.place.toList) (ins : ∀ q, q < K → way t.mask h q ∈ t.place.toList) :
    (∃ q i, c ≤ q ∧ q < K ∧ t.place.toList[i]? = some (way t.mask h q) ∧ ha i = h ∧ (∀ q' i', c ≤ q' → q' < q → t.place.toList[i']? = some (way t.mask h q') → ha i' ≠ h) ∧
      t.probe ha h (prb t h c) = some (.candidate (way t.mask h q) i (prb t h (q + 1)))) ∨
    ((∀ q' i', c ≤ q' → q' < K → t.place.toList[i']? = some (way t.mask h q') → ha i' ≠ h) ∧ t.probe ha h (prb t h c) = some (.empty (way t.mask h K) none)) := by
  have js : ∀ q, (nth t.mask (prb t h c) q).j = way t.mask h (c + q) := fun q => by rw [prb_more, prb_j]
  have g := go_spec t T.ris T.dm ha h (10 * SetTable.turns t.mask) (K - c) (prb t h c) (nth_none _ _ _ rfl) (by omega) (fun q hq => by rw [js]; exact ins _ (by omega)) (by rw [js, Nat.add_sub_cancel' hc]; exact out)
  rcases g with ⟨q, i, h1, h2, h3, h4, h5⟩ | ⟨h1, h2⟩
  · refine .inl ⟨c + q, i, by omega, by omega, by rw [← js]; exact h2, h3, fun q' i' a b e => ?_, ?_⟩
    · refine h4 (q' - c) i' (by omega) ?_
      rw [js, Nat.add_sub_cancel' a]
      exact e
    · rw [← js, show c + q + 1 = c + (q + 1) by omega, ← prb_more]
      exact h5
  · refine .inr ⟨fun q' i' a b e => ?_, ?_⟩
    · refine h1 (q' - c) i' (by omega) ?_
      rw [js, Nat.add_sub_cancel' a]
      exact e
    · have e2 := js (K - c)
      rw [Nat.add_sub_cancel' hc] at e2
      rw [← e2]
      exact h2

/-! ### a set of data -/
abbrev Els := List (Value × PyData)
/-- a member: a tuple that is a key, not too deep -/
structure El (h : Heap) (p : Value × PyData) : Prop where
  is : IsD h p.2 p.1
  key : keyD p.2 = true
  dep : p.2.depth ≤ 8
  ref : ∃ a, p.1 = .ref a
theorem El.keep {h h' : Heap} {p : Value × PyData} (x : El h p) (k : ∀ b o, h.get? b = some o → h'.get? b = some o) : El h' p := ⟨x.is.keep k, x.key, x.dep, x.ref⟩
def rowsD (w : World) (L : Els) : List (Int × Value) := L.map fun p => (hashD w p.2, p.1)
def hashesD (w : World) (L : Els) : List Int := L.map fun p => hashD w p.2
structure SetD (P : Program) (w : World) (h : Heap) (a : Addr) (L : Els) (es : Array (Int × Value)) (ep : Nat) (t : SetTable) : Prop where
  ob : ∃ o, h.get? a = some o ∧ o.ExactSet ∧ o.data = .set es ep t
  rows : es.toList = rowsD w L
  tab : TabOk t (hashesD w L)
  nd : (L.map (·.2)).Nodup
  el : ∀ p ∈ L, El h p
  led : w.params.followText "set-order" = true ∨ t.led = true
  room : L.length * 5 < t.mask * 3
  few : L.length < 64
section
variable {P : Program} {w : World} {A : Around} {E : Value → Shared → Prop} {s : Shared} {a : Addr} {L : Els} {es : Array (Int × Value)} {ep : Nat} {t : SetTable}
theorem SetD.size (R : SetD P w s.heap a L es ep t) : es.size = L.length := by
  rw [← Array.length_toList, R.rows, rowsD, List.length_map]
theorem SetD.places (R : SetD P w s.heap a L es ep t) : t.place.size = L.length := by
  rw [R.tab.sz, hashesD, List.length_map]
theorem SetD.fits (R : SetD P w s.heap a L es ep t) : t.fits es.size = true := by
  have h1 := R.places
  have h2 := R.size
  have h3 := R.room
  unfold SetTable.fits SetTable.fill
  rw [R.tab.dm, Bool.and_eq_true, beq_iff_eq, decide_eq_true_eq]
  exact ⟨by omega, by show t.place.size + 0 ≤ t.mask; omega⟩
theorem SetD.at (R : SetD P w s.heap a L es ep t) {i : Nat} {p : Value × PyData} (h : L[i]? = some p) : es[i]? = some (hashD w p.2, p.1) := by
  rw [← Array.getElem?_toList, R.rows, rowsD, List.getElem?_map, h]
  rfl
theorem SetD.give (R : SetD P w s.heap a L es ep t) : ¬ t.gaveWay = true := by
  unfold SetTable.gaveWay
  rw [mask_odd R.tab.mok]
  decide
/-- a search among such members shows nothing -/
theorem shows_none {x : Value × PyData} (hx : El s.heap x) {ys : List Value} (hy : ∀ y ∈ ys, ∃ d, El s.heap (y, d)) {Q : Bool → Shared → Prop} (h : Q false s) : wpAny (model P w) A (searchCouldBeSeen x.1 ys) Q E s := by
  unfold searchCouldBeSeen
  apply wpAny_bind
  refine wpAny_forIn_list _ (fun rest r s' => r.1 = none ∧ s' = s ∧ ∀ y ∈ rest, ∃ d, El s.heap (y, d)) _ ?_ ?_ _ _ ⟨rfl, rfl, hy⟩
  · rintro v rest r s' ⟨hr, rfl, hall⟩
    obtain ⟨d, hd⟩ := hall v List.mem_cons_self
    have next : ∀ y ∈ rest, ∃ d, El s'.heap (y, d) := fun u hu => hall u (List.mem_cons_of_mem _ hu)
    obtain ⟨b, hb⟩ := hx.ref
    obtain ⟨c, hc⟩ := hd.ref
    have hc' : v = .ref c := hc
    rw [hb, hc']
    dsimp only
    by_cases hv : (b == c || (carriedByValue (.ref b) && carriedByValue (.ref c))) = true
    · exact wp_if_pos hv (wpAny_pure ⟨rfl, rfl, next⟩)
    · apply wp_if_neg hv
      rw [← hb, ← hc']
      apply wpAny_bind
      refine quiet_ok 8 x.2 x.1 _ hx.dep hx.key hx.is ?_
      simp only [Bool.not_true, Bool.false_eq_true, if_false]
      apply wpAny_bind
      refine quiet_ok 8 d v _ hd.dep hd.key hd.is ?_
      simp only [Bool.not_true, Bool.false_eq_true, if_false]
      apply wpAny_bind
      refine class_ok 8 x.2 x.1 _ hx.dep hx.key hx.is ?_
      simp only [Bool.false_eq_true, if_false]
      apply wpAny_bind
      refine class_ok 8 d v _ hd.dep hd.key hd.is ?_
      simp only [Bool.false_eq_true, if_false]
      exact wpAny_pure ⟨rfl, rfl, next⟩
  · rintro ⟨r1, r2⟩ s' ⟨hr, rfl, _⟩
    simp only at hr
    subst hr
    exact wpAny_pure h
theorem eq_el {x y : Value × PyData} (hx : El s.heap x) (hy : El s.heap y) (hu : A.units + 8 < cLine) {Q : Bool → Shared → Prop} (h : Q (PyData.eqv x.2 y.2) s) : wpAny (model P w) A (eqBool x.1 y.1) Q E s := by
  obtain ⟨as, rx⟩ := hx.is
  obtain ⟨bs, ry⟩ := hy.is
  have hd := hx.dep
  exact SeqAt.eqAt_reads x.2 y.2 A s x.1 y.1 as bs rx ry (keyD_lay _ hx.key) (keyD_lay _ hy.key) (by omega) P w E Q h
/-- the search for a member, from the c-th step of its way on -/
theorem seek (R : SetD P w s.heap a L es ep t) {x : Value × PyData} (hx : El s.heap x) (hu : A.units + 8 < cLine) {K : Nat} (hK : K < 10 * SetTable.turns t.mask) (out : way t.mask (hashD w x.2) K ∉ t.place.toList)
    (ins : ∀ q, q < K → way t.mask (hashD w x.2) q ∈ t.place.toList) {Q : SetFound → Shared → Prop} (yes : x.2 ∈ L.map (·.2) → Q (.there none) s) (no : x.2 ∉ L.map (·.2) → Q (.free (way t.mask (hashD w x.2) K) false) s) :
    ∀ (f c : Nat) (st : Option SetTable.Probe), st.getD (t.probeStart (hashD w x.2)) = prb t (hashD w x.2) c → c ≤ K → K - c < f →
      (∀ (i : Nat) (p : Value × PyData), L[i]? = some p → p.2 = x.2 → ∃ q, c ≤ q ∧ q < K ∧ t.place.toList[i]? = some (way t.mask (hashD w x.2) q)) →
      wpAny (model P w) A (setSearchFrom a x.1 (hashD w x.2) true f st) Q E s := by
  intro f
  induction f with
  | zero =>
    intro c st _ _ hf
    omega
  | succ f ih =>
    intro c st hst hc hf reach
    obtain ⟨o, ho, hex, hd⟩ := R.ob
    have ent : ∀ (i : Nat) (p : Value × PyData), L[i]? = some p → (es[i]?.map (·.1)).getD 0 = hashD w p.2 := fun i p hp => by
      rw [R.at hp]
      rfl
    rw [setSearchFrom_succ]
    apply wpAny_bind
    apply wpAny_setState_of ho hd R.fits
    dsimp only
    apply wp_if_neg R.give
    try refine wpAny_bind (wpAny_pure ?_)
    rw [hst]
    rcases probe_way R.tab (fun i => (es[i]?.map (·.1)).getD 0) hc hK out ins with ⟨q, i, c1, c2, hi, hh, first, e⟩ | ⟨none_, e⟩
    · rw [e]
      dsimp only
      have hil : i < L.length := by
        have h1 := (List.getElem?_eq_some_iff.mp hi).1
        rw [Array.length_toList, R.places] at h1
        exact h1
      obtain ⟨p, hp⟩ : ∃ p, L[i]? = some p := ⟨_, List.getElem?_eq_getElem hil⟩
      have pm := List.mem_of_getElem? hp
      have go : wpAny (model P w) A (searchRest a x.1 (hashD w x.2) true f es t (way t.mask (hashD w x.2) q) i (prb t (hashD w x.2) (q + 1))) Q E s := by
        unfold searchRest
        rw [R.at hp]
        dsimp only
        apply wpAny_bind
        apply wpAny_holding
        refine eq_el (R.el p pm) hx hu ?_
        apply wpAny_bind
        apply wpAny_setState_of ho hd R.fits
        dsimp only
        by_cases same : p.2 = x.2
        · rw [(eqv_same (R.el p pm).key hx.key).mpr same]
          apply wp_if_pos rfl
          exact wpAny_pure (yes (List.mem_map.mpr ⟨p, pm, same⟩))
        · have ne : PyData.eqv p.2 x.2 = false := by
            cases z : PyData.eqv p.2 x.2 with
            | false => rfl
            | true => exact absurd ((eqv_same (R.el p pm).key hx.key).mp z) same
          rw [ne]
          apply wp_if_neg Bool.false_ne_true
          try refine wpAny_bind (wpAny_pure ?_)
          rw [sameMem]
          dsimp only
          have live : t.slot (way t.mask (hashD w x.2) q) = .live i := slot_live R.tab.ris hi
          simp only [if_true, live, R.at hp]
          obtain ⟨b, hb⟩ := (R.el p pm).ref
          rw [hb]
          apply wpAny_bind
          apply wpAny_isSame_ref_self
          apply wpAny_bind
          apply wpAny_pure
          simp only [if_true]
          apply wp_if_neg (by simp)
          refine ih (q + 1) _ rfl (by omega) (by omega) fun i0 p0 h0 e0 => ?_
          obtain ⟨q', a1, a2, a3⟩ := reach i0 p0 h0 e0
          refine ⟨q', ?_, a2, a3⟩
          rcases Nat.lt_trichotomy q' q with z | z | z
          · exact absurd ((ent i0 p0 h0).trans (congrArg (hashD w) e0)) (first q' i0 a1 z a3)
          · subst z
            have l0 := slot_live R.tab.ris a3
            rw [live] at l0
            injection l0 with l0
            rw [← l0, hp] at h0
            cases h0
            exact absurd e0 same
          · exact z
      by_cases hl : t.led = true
      · apply wp_if_neg (by simp [hl])
        try refine wpAny_bind (wpAny_pure ?_)
        exact go
      · apply wp_if_pos (by simp [hl])
        apply wpAny_bind
        refine shows_none hx (fun y hy => ?_) ?_
        · obtain ⟨en, hen, rfl⟩ := List.mem_map.mp hy
          have m1 : en ∈ es ∧ en.1 = hashD w x.2 := by simpa using hen
          have m2 : en ∈ es.toList := by simpa using m1.1
          rw [R.rows] at m2
          obtain ⟨p2, hp2, rfl⟩ := List.mem_map.mp m2
          exact ⟨p2.2, R.el p2 hp2⟩
        · apply wp_if_neg (by decide)
          try refine wpAny_bind (wpAny_pure ?_)
          exact go
    · rw [e]
      dsimp only
      refine wpAny_pure (no fun hm => ?_)
      obtain ⟨p0, h0, e0⟩ := List.mem_map.mp hm
      obtain ⟨i0, g0⟩ := List.mem_iff_getElem?.mp h0
      obtain ⟨q', a1, a2, a3⟩ := reach i0 p0 g0 e0
      exact none_ q' i0 a1 a2 a3 ((ent i0 p0 g0).trans (congrArg (hashD w) e0))
theorem seek_add (R : SetD P w s.heap a L es ep t) {x : Value × PyData} (hx : El s.heap x) (hu : A.units + 8 < cLine) {Q : SetFound → Shared → Prop} (yes : x.2 ∈ L.map (·.2) → Q (.there none) s)
    (no : ∀ K, x.2 ∉ L.map (·.2) → way t.mask (hashD w x.2) K ∉ t.place.toList → (∀ q, q < K → way t.mask (hashD w x.2) q ∈ t.place.toList) → Q (.free (way t.mask (hashD w x.2) K) false) s) :
    wpAny (model P w) A (setSearch a x.1 (hashD w x.2) true) Q E s := by
  have room := R.room
  obtain ⟨K, hK, out, ins⟩ := R.tab.first (by rw [hashesD, List.length_map]; omega) (hashD w x.2)
  have fuel : K < 100000 := by
    have : 10 * SetTable.turns t.mask ≤ 1420 := by
      unfold SetTable.turns
      rcases R.tab.mok with e | e | e <;> omega
    omega
  unfold setSearch
  refine seek R hx hu hK out ins yes (fun hn => no K hn out ins) 100000 0 none rfl (Nat.zero_le _) (by omega) fun i p hp e => ?_
  have g : (hashesD w L)[i]? = some (hashD w x.2) := by
    rw [hashesD, List.getElem?_map, hp, ← e]
    rfl
  have hil : i < t.place.toList.length := by
    rw [Array.length_toList, R.places]
    exact (List.getElem?_eq_some_iff.mp hp).1
  obtain ⟨c, c1, c2⟩ := R.tab.before out g (List.getElem?_eq_getElem hil)
  exact ⟨c, Nat.zero_le _, c1, by rw [List.getElem?_eq_getElem hil, c2]⟩
end
end Sd

set_option maxRecDepth 100000
set_option maxHeartbeats 8000000
namespace Sd
open PySem PySem.Spec PyProof.Rows L2
/-! ### what is read of data stays where but sets change -/
theorem reads_but {h h' : Heap} (k : ∀ b o, (∀ x y z, o.data ≠ .set x y z) → h.get? b = some o → h'.get? b = some o) : ∀ n : Nat, (∀ (d : PyData) (v : Value) (as : List Addr), sizeOf d ≤ n → keyD d = true → Reads h v d as → Reads h' v d as) ∧
    (∀ (ds : List PyData) (vs : List Value) (as : List Addr), sizeOf ds ≤ n → keyDs ds = true → ReadsAll h vs ds as → ReadsAll h' vs ds as) := by
  intro n
  induction n with
  | zero =>
    refine ⟨fun d v as z => ?_, fun ds v as z => ?_⟩
    · cases d <;> simp at z
    · cases ds <;> simp at z
  | succ n step =>
    refine ⟨fun d v as z kd r => ?_, fun ds v as z kd r => ?_⟩
    · cases r with
      | none => cases kd
      | bool b => cases kd
      | int i t => exact .int i t
      | str x t => exact .str x t
      | list h1 h2 h3 h4 => cases kd
      | tuple h1 h2 h3 h4 => exact .tuple (k _ _ (fun x y z q => by rw [h3] at q; cases q) h1) h2 h3 (step.2 _ _ _ (by simp at z; omega) (by simpa only [keyD] using kd) h4)
      | dict h1 h2 h3 h4 h5 => cases kd
    · cases r with
      | nil => exact .nil
      | cons h1 h2 =>
        simp only [keyDs, Bool.and_eq_true] at kd
        exact .cons (step.1 _ _ _ (by simp at z; omega) kd.1 h1) (step.2 _ _ _ (by simp at z; omega) kd.2 h2)
theorem El.but {h h' : Heap} {p : Value × PyData} {a : Addr} {o : Obj} {es : Array (Int × Value)} {ep : Nat} {t : SetTable} (x : El h p) (oz : h.get? a = some o) (dz : o.data = .set es ep t) (bz : Heap.SameBut a h h') : El h' p := by
  obtain ⟨as, r⟩ := x.is
  refine ⟨⟨as, (reads_but (fun b o' no e => ?_) _).1 p.2 p.1 as (Nat.le_refl _) x.key r⟩, x.key, x.dep, x.ref⟩
  refine (bz.2 b fun z => ?_).trans e
  subst z
  rw [oz] at e
  cases e
  exact no _ _ _ dz
section
variable {P : Program} {w : World} {A : Around} {E : Value → Shared → Prop} {s : Shared}
theorem rows_in (L : Els) (p : Nat) (x : Value × PyData) : rowsD w (L.take p ++ x :: L.drop p) = (rowsD w L).take p ++ (hashD w x.2, x.1) :: (rowsD w L).drop p := by
  unfold rowsD
  rw [List.map_append, List.map_cons, List.map_take, List.map_drop]
theorem order_rows (L : Els) (es : Array (Int × Value)) (ord : Array Nat) (rr : es.toList = rowsD w L) (pz : ord.toList.Perm (List.range L.length)) :
    ∃ L2, (ord.filterMap (es[·]?)).toList = rowsD w L2 ∧ L2.Perm L ∧ (L2.map fun p => hashD w p.2) = ord.toList.map fun i => (es.map (·.1)).getD i 0 := by
  have sz : es.size = L.length := by
    have h := congrArg List.length rr
    unfold rowsD at h
    rw [Array.length_toList, List.length_map] at h
    exact h
  have entz : ∀ i (h : i < L.length), es[i]? = some (hashD w (L[i]).2, (L[i]).1) := fun i h => by
    rw [← Array.getElem?_toList, rr]
    unfold rowsD
    rw [List.getElem?_map, List.getElem?_eq_getElem h] <;> rfl
  have keyz : ∀ l : List Nat, (∀ i ∈ l, i < L.length) → ∃ L2 : Els, l.filterMap (fun i => es[i]?) = rowsD w L2 ∧ L2 = l.filterMap (fun i => L[i]?) ∧ (L2.map fun p => hashD w p.2) = l.map fun i => (es.map (·.1)).getD i 0 := by
    intro l
    induction l with
    | nil => intro _; exact ⟨[], rfl, rfl, rfl⟩
    | cons i l ihz =>
      intro lz2
      have iz := lz2 i List.mem_cons_self
      obtain ⟨L2, v1, e2, e3⟩ := ihz fun j hj => lz2 j (List.mem_cons_of_mem _ hj)
      refine ⟨L[i] :: L2, ?_, ?_, ?_⟩
      · rw [List.filterMap_cons_some (entz i iz), v1] <;> rfl
      · rw [List.filterMap_cons_some (List.getElem?_eq_getElem iz), e2]
      · rw [List.map_cons, List.map_cons, e3]
        have iz2 : i < (es.map (·.1)).size := by rw [Array.size_map, sz]; exact iz
        have e4 : (es.map (·.1)).getD i 0 = hashD w (L[i]).2 := by
          have e5 : (es.map (·.1))[i]? = some (hashD w (L[i]).2) := by rw [Array.getElem?_map, entz i iz] <;> rfl
          simp [Array.getD_eq_getD_getElem?, e5]
        rw [e4]
  obtain ⟨L2, v1, e2, e3⟩ := keyz ord.toList fun i iz => List.mem_range.mp (pz.mem_iff.mp iz)
  refine ⟨L2, by first | (rw [Array.toList_filterMap]; exact v1) | simpa using v1, ?_, e3⟩
  have h1 : L2.Perm ((List.range L.length).filterMap fun i => L[i]?) := by
    rw [e2]
    exact pz.filterMap _
  have h2 : (List.range L.length).filterMap (fun i => L[i]?) = L := by
    have keyw : ∀ n, n ≤ L.length → (List.range n).filterMap (fun i => L[i]?) = L.take n := by
      intro n
      induction n with
      | zero => intro _; rfl
      | succ n ihz =>
        intro kz
        have ltz : n < L.length := kz
        rw [List.range_succ, List.filterMap_append, ihz (Nat.le_of_lt ltz), List.take_succ, List.getElem?_eq_getElem ltz]
        rw [List.filterMap_cons_some (List.getElem?_eq_getElem ltz)] <;> rfl
    rw [keyw L.length (Nat.le_refl _), List.take_length]
  rw [h2] at h1
  exact h1

variable {a : Addr} {L : Els} {es : Array (Int × Value)} {ep : Nat} {t : SetTable}
theorem rows_len {L : Els} {es : Array (Int × Value)} (rr : es.toList = rowsD w L) : es.size = L.length := by
  have h := congrArg List.length rr
  rwa [Array.length_toList, rowsD, List.length_map] at h
/-- the table laid anew -/
theorem relay_el {o : Obj} (oz : s.heap.get? a = some o) (xz : o.ExactSet) (dz : o.data = .set es ep t) (rz : es.toList = rowsD w L) (T0 : TabOk t (hashesD w L)) (fz : L.length ≤ t.mask)
    (nz : (L.map (·.2)).Nodup) (tz : ∀ p ∈ L, El s.heap p) (lz : w.params.followText "set-order" = true ∨ t.led = true) (wz : L.length < 64) {wanted M : Nat}
    (vz : SetTable.sizeAbove wanted - 1 = M) (Mz : MaskOk M) (v2 : SetTable.sizeAbove wanted ≤ 128) (kz : L.length * 5 < M * 3) {Q : Unit → Shared → Prop}
    (Qz : ∀ h' L' es' ep' t', Heap.SameBut a s.heap h' → SetD P w h' a L' es' ep' t' → L'.Perm L → Q () { s with heap := h' }) : wpAny (model P w) A (setRelay a wanted) Q E s := by
  have slz := rows_len rz
  have psz : t.place.size = L.length := by rw [T0.sz, hashesD, List.length_map]
  have ftz : t.fits es.size = true := by
    unfold SetTable.fits SetTable.fill
    rw [T0.dm, Bool.and_eq_true, beq_iff_eq, decide_eq_true_eq]
    exact ⟨by omega, by show t.place.size + 0 ≤ t.mask; omega⟩
  obtain ⟨t', ord, e, pz, T, emz, elz, ep', edz⟩ := relaid_ok t (hs := es.map (·.1)) (wanted := wanted) vz Mz (by rw [Array.size_map, slz]; omega)
  rw [Array.size_map, slz] at pz
  obtain ⟨L2, u1, u2, u3⟩ := order_rows L es ord rz pz
  rw [← u3] at T
  have s2z : (ord.filterMap (es[·]?)).size = es.size := by rw [rows_len u1, u2.length_eq, slz]
  rw [setRelay_eq]
  apply wpAny_bind
  apply wpAny_setState_of oz dz ftz
  dsimp only
  apply wp_if_neg (by rw [sizeLine_eq]; omega)
  try refine wpAny_bind (wpAny_pure ?_)
  rw [e]
  dsimp only
  apply wpAny_bind
  apply wp_if_neg (by rw [s2z]; simp)
  try refine wpAny_bind (wpAny_pure ?_)
  apply wpAny_pure
  dsimp only
  apply wpAny_storeSet_of oz dz _ (by rw [s2z, slz, sizeLine_eq]; omega)
  have bz : Heap.SameBut a s.heap (s.heap.update a (Obj.putSet (ord.filterMap (es[·]?)) t')) := Heap.SameBut.update ..
  refine Qz _ L2 (ord.filterMap (es[·]?)) (ep + 1) t' bz ⟨⟨_, store_at oz dz, ⟨xz.1, xz.2.1, xz.2.2⟩, rfl⟩, u1, T, ?_, fun p pm => (tz p (u2.mem_iff.mp pm)).but oz dz bz, by rw [elz]; exact lz, ?_, by rw [u2.length_eq]; exact wz⟩ u2
  · exact (u2.map (·.2)).nodup_iff.mpr nz
  · rw [u2.length_eq, emz]
    exact kz
/-- what follows once a member's place is found and taken -/
theorem add_tail {o : Obj} {L1 : Els} {es1 : Array (Int × Value)} {t2 : SetTable} {x : Value × PyData} (oz : s.heap.get? a = some o) (xz : o.ExactSet) (dz : o.data = .set es ep t) (slz : es.size = L.length) (room : L.length * 5 < t.mask * 3) (tmok : MaskOk t.mask)
    (inz : es1.toList = rowsD w L1) (T2 : TabOk t2 (hashesD w L1)) (mk : t2.mask = t.mask) (fl : t2.tooFull = decide ((L.length + 1) * 5 ≥ t2.mask * 3)) (nz1 : (L1.map (·.2)).Nodup) (tz1 : ∀ p ∈ L1, El s.heap p) (ld : w.params.followText "set-order" = true ∨ t2.led = true)
    (prm : L1.Perm (x :: L)) (few : L.length + 1 < 64) {Q : Bool → Shared → Prop} (Qz : ∀ h' L' es' ep' t', Heap.SameBut a s.heap h' → SetD P w h' a L' es' ep' t' → L'.Perm (x :: L) → Q true { s with heap := h' }) :
    wpAny (model P w) A (do
      storeSet a es1 t2
      if !false && t2.tooFull then setRelay a (SetTable.grown (es.size + 1))
      return true) Q E s := by
  have lenz : L1.length = L.length + 1 := prm.length_eq
  have esz : es1.size = L.length + 1 := by rw [rows_len inz, lenz]
  apply wpAny_bind
  apply wpAny_storeSet_of oz dz _ (by rw [esz, sizeLine_eq]; omega)
  have bz : Heap.SameBut a s.heap (s.heap.update a (Obj.putSet es1 t2)) := Heap.SameBut.update ..
  have oz1 := store_at (es' := es1) (t' := t2) oz dz
  generalize s.heap.update a (Obj.putSet es1 t2) = h1 at bz oz1 ⊢
  have tz2 : ∀ p ∈ L1, El h1 p := fun p pm => (tz1 p pm).but oz dz bz
  by_cases full : t2.tooFull = true
  · have fullz : (L.length + 1) * 5 ≥ t.mask * 3 := by
      have h := full
      rw [fl, decide_eq_true_eq, mk] at h
      exact h
    have two : (t.mask = 7 ∧ L.length = 4) ∨ (t.mask = 31 ∧ L.length = 18) := by
      rcases tmok with e | e | e
      · exact .inl ⟨e, by omega⟩
      · exact .inr ⟨e, by omega⟩
      · exact absurd fullz (by omega)
    rw [slz]
    have goz : ∀ M, SetTable.sizeAbove (SetTable.grown (L.length + 1)) - 1 = M → MaskOk M → SetTable.sizeAbove (SetTable.grown (L.length + 1)) ≤ 128 → (L.length + 1) * 5 < M * 3 → L1.length ≤ t2.mask →
        wpAny (model P w) A (setRelay a (SetTable.grown (L.length + 1))) (fun _ s' => wpAny (model P w) A (pure true) Q E s') E { s with heap := h1 } := fun M c1 c2 c3 c4 c5 => by
      refine relay_el (s := { s with heap := h1 }) oz1 ⟨xz.1, xz.2.1, xz.2.2⟩ rfl inz T2 c5 nz1 tz2 ld (by rw [lenz]; exact few) c1 c2 c3 (by rw [lenz]; exact c4) ?_
      intro h2 L2 es2 ep2 t3 sb2 R2 pm2
      exact wpAny_pure (Qz h2 L2 es2 ep2 t3 (bz.trans sb2) R2 (pm2.trans prm))
    have run : wpAny (model P w) A (setRelay a (SetTable.grown (L.length + 1))) (fun _ s' => wpAny (model P w) A (pure true) Q E s') E { s with heap := h1 } := by
      rcases two with ⟨e1, e2⟩ | ⟨e1, e2⟩
      · exact goz 31 (by rw [e2, size_20]) (.inr (.inl rfl)) (by rw [e2, size_20]; decide) (by omega) (by rw [mk, lenz]; omega)
      · exact goz 127 (by rw [e2, size_76]) (.inr (.inr rfl)) (by rw [e2, size_76]; decide) (by omega) (by rw [mk, lenz]; omega)
    first
      | exact wpAny_bind (wp_if_pos (by simp [full]) run)
      | exact wp_if_pos (by simp [full]) (wpAny_bind run)
  · have R1 : SetD P w h1 a L1 es1 (ep + 1) t2 := ⟨⟨_, oz1, ⟨xz.1, xz.2.1, xz.2.2⟩, rfl⟩, inz, T2, nz1, tz2, ld, by
      have h := full
      rw [fl, decide_eq_true_eq] at h
      rw [lenz]
      omega, by rw [lenz]; exact few⟩
    first
      | exact wpAny_bind (wp_if_neg (by simp [full]) (wpAny_pure (wpAny_pure (Qz h1 L1 es1 (ep + 1) t2 bz R1 prm))))
      | exact wp_if_neg (by simp [full]) (wpAny_pure (Qz h1 L1 es1 (ep + 1) t2 bz R1 prm))
/-- a member is added -/
theorem add_el (R : SetD P w s.heap a L es ep t) {x : Value × PyData} (xx : El s.heap x) (uz : A.units + 8 < cLine) (few : L.length + 1 < 64) {Q : Bool → Shared → Prop}
    (Qz : ∀ b h' L' es' ep' t', Heap.SameBut a s.heap h' → SetD P w h' a L' es' ep' t' → (x.2 ∈ L.map (·.2) → L' = L) → (x.2 ∉ L.map (·.2) → L'.Perm (x :: L)) → Q b { s with heap := h' }) :
    wpAny (model P w) A (setAddHashed a x.1 (hashD w x.2)) Q E s := by
  obtain ⟨o, oz, xz, dz⟩ := R.ob
  have slz := R.size
  unfold setAddHashed
  apply wpAny_holding
  rw [show (100000 : Nat) = 99999 + 1 from rfl, setAddHashedIn_succ]
  apply wpAny_bind
  apply wpAny_setState_of oz dz R.fits
  dsimp only
  obtain ⟨xa, hxa⟩ := xx.ref
  apply wp_if_neg (by simp [byScan, Value.scannable, hxa])
  try refine wpAny_bind (wpAny_pure ?_)
  apply wpAny_bind
  refine seek_add R xx uz (fun nm => ?_) fun K nm Kz bb => ?_
  · dsimp only
    exact wpAny_pure (Qz false s.heap L es ep t (Heap.SameBut.refl a s.heap) R (fun _ => rfl) fun z => absurd nm z)
  · dsimp only
    apply wpAny_bind
    apply wpAny_setState_of oz dz R.fits
    dsimp only
    obtain ⟨w1, w2, w3, w4, w5, w6, w7, w8, w9⟩ := R.tab.put Kz bb
    generalize ptz : t.put (way t.mask (hashD w x.2) K) = pt at w1 w3 w4 w5 w6 w7 w8 w9 ⊢
    obtain ⟨t1, p⟩ := pt
    dsimp only at w1 w3 w4 w5 w6 w7 w8 w9 ⊢
    subst w1
    have inz := rows_in (w := w) L (SetTable.below t.place (way t.mask (hashD w x.2) K)) x
    have pin : (SetTable.insertAt es (SetTable.below t.place (way t.mask (hashD w x.2) K)) (hashD w x.2, x.1)).toList = rowsD w (L.take (SetTable.below t.place (way t.mask (hashD w x.2) K)) ++ x :: L.drop (SetTable.below t.place (way t.mask (hashD w x.2) K))) := by
      rw [SetTable.toList_insertAt, inz, R.rows]
    have prm := put_perm L (SetTable.below t.place (way t.mask (hashD w x.2) K)) x
    have hsz : hashesD w (L.take (SetTable.below t.place (way t.mask (hashD w x.2) K)) ++ x :: L.drop (SetTable.below t.place (way t.mask (hashD w x.2) K))) = (hashesD w L).take (SetTable.below t.place (way t.mask (hashD w x.2) K)) ++ hashD w x.2 :: (hashesD w L).drop (SetTable.below t.place (way t.mask (hashD w x.2) K)) := by
      unfold hashesD
      rw [List.map_append, List.map_cons, List.map_take, List.map_drop]
    rw [← hsz] at w3
    have nz1 : ((L.take (SetTable.below t.place (way t.mask (hashD w x.2) K)) ++ x :: L.drop (SetTable.below t.place (way t.mask (hashD w x.2) K))).map (·.2)).Nodup := by
      refine (prm.map (·.2)).nodup_iff.mpr ?_
      rw [List.map_cons]
      exact List.nodup_cons.mpr ⟨nm, R.nd⟩
    have tz1 : ∀ q ∈ L.take (SetTable.below t.place (way t.mask (hashD w x.2) K)) ++ x :: L.drop (SetTable.below t.place (way t.mask (hashD w x.2) K)), El s.heap q := fun q hq => by
      rcases List.mem_cons.mp (prm.mem_iff.mp hq) with e | hq
      · rw [e]
        exact xx
      · exact R.el q hq
    have ld1 : w.params.followText "set-order" = true ∨ t1.led = true := by rw [w5]; exact R.led
    have fl1 : t1.tooFull = decide ((L.length + 1) * 5 ≥ t1.mask * 3) := by
      unfold SetTable.tooFull
      rw [w9, hashesD, List.length_map]
    have fin := fun h' L' es' ep' t' (b1 : Heap.SameBut a s.heap h') (b2 : SetD P w h' a L' es' ep' t') (b3 : L'.Perm (x :: L)) => Qz true h' L' es' ep' t' b1 b2 (fun z => absurd z nm) fun _ => b3
    have tail1 := add_tail (A := A) (E := E) (x := x) oz xz dz slz R.room R.tab.mok pin w3 w4 fl1 nz1 tz1 ld1 prm few fin
    have tail2 := add_tail (A := A) (E := E) (t2 := { t1 with plain := false }) (x := x) oz xz dz slz R.room R.tab.mok pin ⟨w3.ris, w3.dm, w3.sz, w3.mok, w3.bd, w3.reach⟩ w4 fl1 nz1 tz1 ld1 prm few fin
    by_cases pl : t1.plain = true
    · apply wp_if_pos pl
      apply wpAny_bind
      refine byValue_ok 8 x.2 x.1 _ xx.key xx.is fun b => ?_
      cases b with
      | true => exact tail1
      | false => exact tail2
    · apply wp_if_neg pl
      apply wpAny_bind
      exact wpAny_pure tail1
end
end Sd

set_option maxRecDepth 100000
set_option maxHeartbeats 8000000
/-! a set made of a list of data -/
namespace Sd
open PySem PySem.Spec PyProof.Rows L2
/-- what the set has got from the first j items -/
structure Gets (ms : Els) (j : Nat) (L : Els) : Prop where
  subm : ∀ p ∈ L, p ∈ ms.take j
  all : ∀ p ∈ ms.take j, p.2 ∈ L.map (·.2)
  len : L.length ≤ j
theorem Gets.zero (ms : Els) : Gets ms 0 [] := ⟨fun p h => (by cases h), fun p h => (by simp at h), Nat.le_refl _⟩
theorem take_next {α : Type} {l : List α} {j : Nat} {x : α} (h : l[j]? = some x) : l.take (j + 1) = l.take j ++ [x] := by
  rw [List.take_succ, h] <;> rfl
theorem Gets.same {ms L : Els} {j : Nat} {x : Value × PyData} (gz : Gets ms j L) (h : ms[j]? = some x) (nm : x.2 ∈ L.map (·.2)) : Gets ms (j + 1) L := by
  refine ⟨fun p pz => ?_, fun p pz => ?_, Nat.le_succ_of_le gz.len⟩
  · rw [take_next h]
    exact List.mem_append_left _ (gz.subm p pz)
  · rw [take_next h] at pz
    rcases List.mem_append.mp pz with z | z
    · exact gz.all p z
    · rw [List.mem_singleton.mp z]; exact nm
theorem Gets.more {ms L L' : Els} {j : Nat} {x : Value × PyData} (gz : Gets ms j L) (h : ms[j]? = some x) (prm : L'.Perm (x :: L)) : Gets ms (j + 1) L' := by
  refine ⟨fun p pz => ?_, fun p pz => ?_, ?_⟩
  · rw [take_next h]
    rcases List.mem_cons.mp (prm.mem_iff.mp pz) with e | z
    · rw [e]; exact List.mem_append_right _ (List.mem_singleton.mpr rfl)
    · exact List.mem_append_left _ (gz.subm p z)
  · rw [(prm.map (·.2)).mem_iff, List.map_cons]
    rw [take_next h] at pz
    rcases List.mem_append.mp pz with z | z
    · exact List.mem_cons_of_mem _ (gz.all p z)
    · rw [List.mem_singleton.mp z]; exact List.mem_cons_self
  · rw [prm.length_eq, List.length_cons]
    exact Nat.succ_le_succ gz.len

section
variable {P : Program} {w : World} {A : Around} {E : Value → Shared → Prop} {s : Shared}
theorem SetD.keep {h h' : Heap} {a : Addr} {L : Els} {es : Array (Int × Value)} {ep : Nat} {t : SetTable} (R : SetD P w h a L es ep t) (ha : ∀ o, h.get? a = some o → h'.get? a = some o) (ht : ∀ p ∈ L, El h' p) : SetD P w h' a L es ep t := by
  obtain ⟨o, ho, r⟩ := R.ob
  exact ⟨⟨o, ha o ho, r⟩, R.rows, R.tab, R.nd, ht, R.led, R.room, R.few⟩
/-- a new set -/
theorem setD_fresh {h : Heap} {a : Addr} (ho : h.get? a = some { cls := .type "set", dict := none, data := .set #[] 0 (.fresh 0 0 (!w.params.followText "set-order")) }) : SetD P w h a [] #[] 0 (.fresh 0 0 (!w.params.followText "set-order")) where
  ob := ⟨_, ho, ⟨rfl, rfl, rfl⟩, rfl⟩
  rows := rfl
  tab := ⟨List.Pairwise.nil, rfl, rfl, .inl rfl, fun x xx => (by cases xx), fun j h j iz => (by simp [hashesD] at iz)⟩
  nd := List.nodup_nil
  el := fun p pz => (by cases pz)
  led := by
    show _ ∨ (!w.params.followText "set-order") = true
    cases w.params.followText "set-order"
    · exact .inr rfl
    · exact .inl rfl
  room := by
    show 0 * 5 < 7 * 3
    decide
  few := by
    show 0 < 64
    decide

/-- set.update's loop -/
theorem update_els {It : Addr} {fpz wrz : List Addr} {G : Array GenState → Array GenState → Prop} {n : Nat} {Pj : Nat → Value → Prop} {Stj : Nat → Shared → Prop} {R : Result → Shared → Prop}
    (Wk : WalksS P w A.in1 It fpz wrz G n Pj Stj) (Sa : Addr) (nSf : Sa ∉ fpz) (ms : Els) (kz : n = ms.length) (few : ms.length < 64) (vals : ∀ j v, Pj j v → ∃ p, ms[j]? = some p ∧ v = p.1)
    (hz0 : Heap) (elz : ∀ p ∈ ms, El hz0 p) (sz0 : hz0.get? Sa = none) (wz0 : ∀ b ∈ wrz, hz0.get? b = none) (uz : A.in1.units + 8 < cLine) :
    ∀ (k j : Nat) (s : Shared), n - j = k → j ≤ n → Stj j s → (∀ b o, hz0.get? b = some o → s.heap.get? b = some o) → (∃ L es ep t, SetD P w s.heap Sa L es ep t ∧ Gets ms j L) →
      (∀ s' L es ep t, Moved (Sa :: wrz) G s s' → SetD P w s'.heap Sa L es ep t → Gets ms n L → (∀ b o, hz0.get? b = some o → s'.heap.get? b = some o) → R (.ok (.ret .none)) s') →
      codeAny (model P w) A (.builtin "set.update.loop" ⟨[.ref Sa, .ref It], []⟩) R s := by
  have nSw : Sa ∉ wrz := fun h => nSf (Wk.sub _ h)
  have subz : ∀ b ∈ wrz, b ∈ Sa :: wrz := fun b hb => List.mem_cons_of_mem _ hb
  have keepz : ∀ {s s' : Shared}, Moved wrz G s s' → (∀ b o, hz0.get? b = some o → s.heap.get? b = some o) → ∀ b o, hz0.get? b = some o → s'.heap.get? b = some o := fun nm kpz b o e =>
    nm.heap b o (fun hb => by rw [wz0 b hb] at e; cases e) (kpz b o e)
  intro k
  induction k with
  | zero =>
    intro j s elz' iz stz kpz ⟨L, es, ep, t, tS, gz⟩ Rz
    have inz : j = n := by omega
    subst inz
    refine codeAny_builtin F.entry_set_update_loop ?_
    rw [Around.under_plainId F.plain_set_update_loop _]
    show wpAny _ A.in1 (pyNext (.ref It) >>= _) _ _ s
    refine wpAny_bind (Wk.done s _ _ stz fun s' nm => ?_)
    show wpAny _ A.in1 (ret Value.none) _ _ s'
    have kpz' := keepz nm kpz
    have subm : ∀ p ∈ L, p ∈ ms := fun p pz => List.mem_of_mem_take (gz.subm p pz)
    exact wpAny_pure (Rz s' L es ep t (nm.mono subz) (tS.keep (fun o e => nm.heap Sa o nSw e) fun p pz => (elz p (subm p pz)).keep kpz') gz kpz')
  | succ k ihz =>
    intro j s elz' iz stz kpz ⟨L, es, ep, t, tS, gz⟩ Rz
    have ltz : j < n := by omega
    refine codeAny_builtin F.entry_set_update_loop ?_
    rw [Around.under_plainId F.plain_set_update_loop _]
    show wpAny _ A.in1 (pyNext (.ref It) >>= _) _ _ s
    refine wpAny_bind (Wk.item j s _ _ ltz stz fun v s' Pz stz' nm => ?_)
    obtain ⟨p, pz, rfl⟩ := vals j v Pz
    have kpz' := keepz nm kpz
    have subm : ∀ p ∈ L, p ∈ ms := fun p pz => List.mem_of_mem_take (gz.subm p pz)
    have tS' : SetD P w s'.heap Sa L es ep t := tS.keep (fun o e => nm.heap Sa o nSw e) fun q hq => (elz q (subm q hq)).keep kpz'
    have xx : El s'.heap p := (elz p (List.mem_of_getElem? pz)).keep kpz'
    show wpAny _ A.in1 (holding [p.1] (setAdd Sa p.1) >>= _) _ _ s'
    refine wpAny_bind (wpAny_holding ?_)
    unfold setAdd
    refine wpAny_holding ?_
    obtain ⟨as, rd⟩ := xx.is
    refine wpAny_bind ((hash_ok _).1 p.2 p.1 as A.in1 s' _ (Nat.le_refl _) xx.key rd rfl (by have := xx.dep; omega) fun tk htk => ?_)
    refine add_el (s := { s' with toks := tk }) tS' xx uz (by have := gz.len; omega) fun b h' L' es' ep' t' bz hS2 c1 c2 => ?_
    have gz' : Gets ms (j + 1) L' := by
      rcases Classical.em (p.2 ∈ L.map (·.2)) with cz | cz
      · rw [c1 cz]; exact gz.same pz cz
      · exact gz.more pz (c2 cz)
    have hkp2 : ∀ b o, hz0.get? b = some o → h'.get? b = some o := fun b o e => (bz.2 b (fun z => by rw [z, sz0] at e; cases e)).trans (kpz' b o e)
    refine wpAny_pure ⟨plainId_quiet F.plain_set_update_loop _, ihz (j + 1) _ (by omega) ltz (Wk.frame _ s' _ _ stz' htk fun b hb o e => ?_) hkp2 ⟨L', es', ep', t', hS2, gz'⟩ fun s'' L2 es2 ep2 t2 nm'' tS'' gz'' kpz'' => ?_⟩
    · rw [bz.2 b (fun h : b = Sa => nSf (by rw [← h]; exact hb))]; exact e
    · refine Rz s'' L2 es2 ep2 t2 (Moved.trans Wk.gtrans ((nm.mono subz).then_heap htk fun b o hb e => ?_) nm'') tS'' gz'' kpz''
      rw [bz.2 b (fun h : b = Sa => hb (by rw [h]; exact List.mem_cons_self))]; exact e

set_option maxRecDepth 100000 in
set_option maxHeartbeats 3200000 in
/-- set(xs) -/
theorem call_set_els {l : Addr} {items : Array Value} (ms : Els) {Q : Value → Shared → Prop} (nh : A.handled = none) (lz : s.heap.IsList l items) (itz : items.toList = ms.map fun p => p.1)
    (elz : ∀ p ∈ ms, El s.heap p) (few : ms.length < 64) (uz : A.units + 16 < cLine)
    (h : ∀ (h' : Heap) (tk : Nat) L es ep t, SetD P w h' s.heap.objs.size L es ep t → Gets ms ms.length L → (∀ b o, s.heap.get? b = some o → h'.get? b = some o) → Q (.ref s.heap.objs.size) { s with heap := h', toks := tk }) :
    wpAny (model P w) A (call (.type "set") [.ref l]) Q E s := by
  have isz : items.size = ms.length := by
    have q := congrArg List.length itz
    rw [Array.length_toList, List.length_map] at q
    exact q
  obtain ⟨cz, tlz, mz⟩ := F.called_set.mro
  have mdz := F.called_set.made
  have subz := F.called_set.sub
  refine wpAny_call (codeAny_of_tree ?_)
  show wpAny _ _ (callAny (.type "set") _) _ _ _
  refine wpAny_pure ⟨Code.quiet_builtin _ (by decide +kernel), codeAny_builtin F.entry_type_call ?_⟩
  rw [Around.under_plain (weight_type_call_type "set" [.ref l] []) rfl]
  have k1 := F.called_set.notType
  have k2 := F.called_set.canCreate
  have ctz := F.typeCall_set_1 (.ref l)
  repeat (any_goals (first | assumption | wp_step))

  refine codeAny_mono (code_set_led1 (.ref l) (E := E) (Q₁ := fun obj s₁ => obj = .ref s.heap.objs.size ∧ s₁ = { s with heap := s.heap.push { cls := .type "set", dict := none, data := .set #[] 0 (.fresh 0 0 (!w.params.followText "set-order")) } }) ⟨rfl, rfl⟩) fun r s₁ rz => ?_
  cases r with
  | error e => exact rz
  | ok fl =>
    cases fl with
    | ret obj =>
      obtain ⟨rfl, rfl⟩ := rz
      have tS : (s.heap.push { cls := .type "set", dict := none, data := .set #[] 0 (.fresh 0 0 (!w.params.followText "set-order")) }).get? s.heap.objs.size = some { cls := .type "set", dict := none, data := .set #[] 0 (.fresh 0 0 (!w.params.followText "set-order")) } := Heap.get?_push_size _ rfl
      have Tz : Shared.TypeIs { s with heap := s.heap.push { cls := .type "set", dict := none, data := .set #[] 0 (.fresh 0 0 (!w.params.followText "set-order")) } } (.ref s.heap.objs.size) "set" := ⟨_, tS, rfl⟩
      have liz := F.called_set.init.lookup
      have biz := F.called_set.init.bind (.ref s.heap.objs.size)
      repeat (any_goals (first | assumption | wp_step))

      refine codeAny_mono (codeAny_call_builtin (R := wants (fun r s₂ => r = .none ∧ ∃ h' tk L es ep t, s₂ = { s with heap := h', toks := tk } ∧ SetD P w h' s.heap.objs.size L es ep t ∧ Gets ms ms.length L ∧
          (∀ b o, s.heap.get? b = some o → h'.get? b = some o)) E) F.called_set.init.plain F.entry_set_init (check_set_init_1 Tz ?_)) fun r₂ s₂ hr₂ => ?_
      · obtain ⟨oo, olz, clz, n4, dlz⟩ := lz
        obtain ⟨o1, o2, o3, o4⟩ := oo
        simp only at clz dlz
        subst clz; subst dlz
        have olz' : (s.heap.push { cls := .type "set", dict := none, data := .set #[] 0 (.fresh 0 0 (!w.params.followText "set-order")) }).get? l = some { cls := .type "list", dict := o2, data := .seq items n4, slots := o4 } := Heap.get?_push_of_some _ olz
        have slsz := F.sub_list_set
        have slfz := F.sub_list_frozenset
        have nez : (Value.type "list" == Value.type "dict") = false := by decide
        have lz1 : (s.heap.push { cls := .type "set", dict := none, data := .set #[] 0 (.fresh 0 0 (!w.params.followText "set-order")) }).IsList l items := ⟨_, olz', rfl, n4, rfl⟩
        unfold Builtin.«set.__init__» noKeywords Builtin.Frozenset.updateFrom
        generalize PJz : pyIter = PJ
        wp_walk
        subst PJz

        refine wpAny_pyIter_list lz1 ?_
        refine wpAny_bind (wpAny_runValue ?_)
        have lSz : l < s.heap.objs.size := Heap.lt_size olz
        have nh3 : A.in1.in1.in1.handled = none := by simp [nh]
        have zz1 : (s.heap.push { cls := .type "set", dict := none, data := .set #[] 0 (.fresh 0 0 (!w.params.followText "set-order")) }).objs.size = s.heap.objs.size + 1 := Heap.size_push ..
        have neIz : l ≠ (s.heap.push { cls := .type "set", dict := none, data := .set #[] 0 (.fresh 0 0 (!w.params.followText "set-order")) }).objs.size := by
          rw [Heap.size_push]; exact Nat.ne_of_lt (Nat.lt_succ_of_lt lSz)
        have nSf : s.heap.objs.size ∉ [(s.heap.push { cls := .type "set", dict := none, data := .set #[] 0 (.fresh 0 0 (!w.params.followText "set-order")) }).objs.size, l] := by
          rw [Heap.size_push]; simp only [List.mem_cons, List.mem_singleton, List.not_mem_nil, or_false, not_or]
          exact ⟨Nat.ne_of_lt (Nat.lt_succ_self _), Nat.ne_of_gt lSz⟩
        have vals : ∀ (j : Nat) (v : Value), items[j]? = some v → ∃ p, ms[j]? = some p ∧ v = p.1 := fun j v hv => by
          have q : items.toList[j]? = some v := by rw [Array.getElem?_toList]; exact hv
          rw [itz, List.getElem?_map] at q
          cases hq : ms[j]? with
          | none => rw [hq] at q; cases q
          | some p =>
            rw [hq] at q
            exact ⟨p, rfl, (Option.some.inj q).symm⟩
        have noneAt : ∀ b, s.heap.objs.size ≤ b → s.heap.get? b = none := fun b hb => by
          cases q : s.heap.get? b with
          | none => rfl
          | some o => exact absurd (Nat.lt_of_lt_of_le (Heap.lt_size q) hb) (Nat.lt_irrefl _)
        refine update_els ((Walks.list nh3 _ l neIz items).toS) s.heap.objs.size
          nSf ms isz few vals s.heap elz (noneAt _ (Nat.le_refl _)) (fun b hb => noneAt b (by
            rw [List.mem_singleton.mp hb, Heap.size_push]
            exact Nat.le_succ _)) (by show A.units + 1 + 1 + 1 + 8 < cLine; omega) (items.size - 0) 0 _ (by omega) (Nat.zero_le _)
          ⟨⟨_, Heap.get?_push_size _ rfl, rfl, rfl⟩, (lz1.push _)⟩ (fun b o e => Heap.get?_push_of_some _ (Heap.get?_push_of_some _ e)) ?sz0 ?Rz
        case sz0 =>
          have getz : ((s.heap.push { cls := .type "set", dict := none, data := .set #[] 0 (.fresh 0 0 (!w.params.followText "set-order")) }).push { cls := .type "list_iterator", data := .fields #[.ref l, .int 0 0] }).get? s.heap.objs.size
              = some { cls := .type "set", dict := none, data := .set #[] 0 (.fresh 0 0 (!w.params.followText "set-order")) } := Heap.get?_push_of_some _ tS
          exact ⟨[], #[], 0, _, setD_fresh getz, Gets.zero ms⟩
        case Rz =>
          intro s' L es ep t nm tS' gz' kpz
          obtain ⟨h', g2, d', tk', os'⟩ := s'
          have eg : g2 = s.gens := nm.gens
          have ed : d' = s.drawn := nm.drawn
          have eo : os' = s.os := nm.os
          subst eg; subst ed; subst eo
          show wpAny _ _ _ _ _ _
          refine wpAny_pure ?_
          show wpAny _ _ (ret Value.none) _ _ _
          rw [isz] at gz'
          exact wpAny_pure ⟨rfl, h', tk', L, es, ep, t, rfl, tS', gz', kpz⟩

      · cases r₂ with
        | error e => exact hr₂
        | ok fl₂ =>
          cases fl₂ with
          | ret r =>
            obtain ⟨rfl, h', tk, L, es, ep, t, rfl, tS', gz', elz'⟩ := hr₂
            repeat (any_goals (first | assumption | wp_step))
            exact h _ _ _ _ _ _ tS' gz' elz'
          | _ => exact hr₂.elim
    | _ => exact rz.elim

end
end Sd

set_option maxRecDepth 100000
set_option maxHeartbeats 4000000
/-! the order of data: a code whose order by places is Python's -/
namespace Sd
open PySem PySem.Spec PyProof.Rows L2
mutual
def enc : PyData → List Int
  | .int i => [i]
  | .str x => (x.cps.toList.map fun c : Nat => (c : Int) + 1) ++ [0]
  | .tuple ds => encs ds
  | _ => []
def encs : List PyData → List Int
  | [] => [0]
  | d :: ds => 1 :: (enc d ++ encs ds)
end
mutual
/-- of one kind, place by place -/
def like : PyData → PyData → Bool
  | .int _, .int _ => true
  | .str _, .str _ => true
  | .tuple ds, .tuple es => likes ds es
  | _, _ => false
def likes : List PyData → List PyData → Bool
  | d :: ds, e :: es => like d e && likes ds es
  | _, _ => true
end
/-- two rows of numbers differ first by x and y -/
def Dif (a b : List Int) (x y : Int) : Prop := ∃ p r q : List Int, a = p ++ x :: r ∧ b = p ++ y :: q
theorem lt_pre (p u v : List Int) : p ++ u < p ++ v ↔ u < v := by
  induction p with
  | nil => rfl
  | cons a p step =>
    rw [List.cons_append, List.cons_append, List.cons_lt_cons_iff]
    constructor
    · rintro (h | ⟨_, h⟩)
      · exact absurd h (Int.lt_irrefl a)
      · exact step.mp h
    · exact fun h => .inr ⟨rfl, step.mpr h⟩
theorem Dif.lt {a b : List Int} {x y : Int} (h : Dif a b x y) (ne : x ≠ y) (s t : List Int) : a ++ s < b ++ t ↔ x < y := by
  obtain ⟨p, r, q, rfl, rfl⟩ := h
  rw [List.append_assoc, List.append_assoc, lt_pre, List.cons_append, List.cons_append, List.cons_lt_cons_iff]
  constructor
  · rintro (h | ⟨h, _⟩)
    · exact h
    · exact absurd h ne
  · exact .inl
theorem Dif.lt0 {a b : List Int} {x y : Int} (h : Dif a b x y) (ne : x ≠ y) : a < b ↔ x < y := by
  have := h.lt ne [] []
  rwa [List.append_nil, List.append_nil] at this
theorem Dif.pre {a b : List Int} {x y : Int} (h : Dif a b x y) (p s t : List Int) : Dif (p ++ (a ++ s)) (p ++ (b ++ t)) x y := by
  obtain ⟨p2, r, q, rfl, rfl⟩ := h
  exact ⟨p ++ p2, r ++ s, q ++ t, by simp, by simp⟩
theorem chars_dif : ∀ u v : List Nat, u = v ∨ ∃ x y, x ≠ y ∧ Dif ((u.map fun c : Nat => (c : Int) + 1) ++ [0]) ((v.map fun c : Nat => (c : Int) + 1) ++ [0]) x y ∧ (u < v ↔ x < y)
  | [], [] => .inl rfl
  | [], c :: v => .inr ⟨0, (c : Int) + 1, by omega, ⟨[], [], _, rfl, rfl⟩, ⟨fun _ => by omega, fun _ => List.nil_lt_cons _ _⟩⟩
  | c :: u, [] => .inr ⟨(c : Int) + 1, 0, by omega, ⟨[], _, [], rfl, rfl⟩, ⟨fun h => absurd h (List.not_lt_nil _), fun h => by omega⟩⟩
  | c :: u, d :: v => by
    by_cases e : c = d
    · subst e
      rcases chars_dif u v with h | ⟨x, y, ne, h, k⟩
      · exact .inl (by rw [h])
      · refine .inr ⟨x, y, ne, ?_, ?_⟩
        · obtain ⟨p, r, q, h1, h2⟩ := h
          exact ⟨((c : Int) + 1) :: p, r, q, by rw [List.map_cons, List.cons_append, h1, List.cons_append], by rw [List.map_cons, List.cons_append, h2, List.cons_append]⟩
        · rw [List.cons_lt_cons_iff]
          constructor
          · rintro (z | ⟨_, z⟩)
            · exact absurd z (Nat.lt_irrefl c)
            · exact k.mp z
          · exact fun z => .inr ⟨rfl, k.mpr z⟩
    · refine .inr ⟨(c : Int) + 1, (d : Int) + 1, by omega, ⟨[], _, _, rfl, rfl⟩, ?_⟩
      rw [List.cons_lt_cons_iff]
      constructor
      · rintro (z | ⟨z, _⟩)
        · omega
        · exact absurd z e
      · exact fun z => .inl (by omega)
theorem str_ext {x y : Str} (h : x.cps.toList = y.cps.toList) : x = y := by
  cases x
  cases y
  simp only at h
  rw [Array.toList_inj.mp h]
theorem enc_dif : ∀ n : Nat, (∀ d e : PyData, sizeOf d ≤ n → like d e = true → d = e ∨ ∃ x y, x ≠ y ∧ Dif (enc d) (enc e) x y) ∧ (∀ ds es : List PyData, sizeOf ds ≤ n → likes ds es = true → ds = es ∨ ∃ x y, x ≠ y ∧ Dif (encs ds) (encs es) x y) := by
  intro n
  induction n with
  | zero =>
    refine ⟨fun d e h => ?_, fun ds es h => ?_⟩
    · cases d <;> simp at h
    · cases ds <;> simp at h
  | succ n step =>
    refine ⟨fun d e h k => ?_, fun ds es h k => ?_⟩
    · cases d with
      | int i =>
        cases e with
        | int j =>
          by_cases c : i = j
          · exact .inl (by rw [c])
          · exact .inr ⟨i, j, c, ⟨[], [], [], by simp [enc], by simp [enc]⟩⟩
        | _ => simp [like] at k
      | str x =>
        cases e with
        | str y =>
          rcases chars_dif x.cps.toList y.cps.toList with c | ⟨a, b, ne, h1, _⟩
          · exact .inl (by rw [str_ext c])
          · exact .inr ⟨a, b, ne, by simpa only [enc] using h1⟩
        | _ => simp [like] at k
      | tuple ds =>
        cases e with
        | tuple es =>
          rcases step.2 ds es (by simp at h; omega) (by simpa only [like] using k) with c | ⟨a, b, ne, h1⟩
          · exact .inl (by rw [c])
          · exact .inr ⟨a, b, ne, by simpa only [enc] using h1⟩
        | _ => simp [like] at k
      | _ => cases e <;> simp [like] at k
    · cases ds with
      | nil =>
        cases es with
        | nil => exact .inl rfl
        | cons e es => exact .inr ⟨0, 1, by decide, ⟨[], [], _, by simp only [encs, List.nil_append], by simp only [encs, List.nil_append]; rfl⟩⟩
      | cons d ds =>
        cases es with
        | nil => exact .inr ⟨1, 0, by decide, ⟨[], _, [], by simp only [encs, List.nil_append]; rfl, by simp only [encs, List.nil_append]⟩⟩
        | cons e es =>
          simp only [likes, Bool.and_eq_true] at k
          simp at h
          rcases step.1 d e (by omega) k.1 with c | ⟨a, b, ne, h1⟩
          · subst c
            rcases step.2 ds es (by omega) k.2 with c | ⟨a, b, ne, h1⟩
            · exact .inl (by rw [c])
            · refine .inr ⟨a, b, ne, ?_⟩
              have := h1.pre (1 :: enc d) [] []
              simpa only [encs, List.append_nil, List.cons_append] using this
          · refine .inr ⟨a, b, ne, ?_⟩
            have := h1.pre [1] (encs ds) (encs es)
            simpa only [encs, List.cons_append, List.nil_append] using this
theorem enc_two {d e : PyData} (k : like d e = true) : d = e ∨ ∃ x y, x ≠ y ∧ Dif (enc d) (enc e) x y := (enc_dif (sizeOf d)).1 d e (Nat.le_refl _) k
theorem encs_head {d e : PyData} {ds es : List PyData} (k : like d e = true) (ne : d ≠ e) : encs (d :: ds) < encs (e :: es) ↔ enc d < enc e := by
  rcases enc_two k with c | ⟨x, y, nxy, h⟩
  · exact absurd c ne
  · rw [h.lt0 nxy]
    have := (h.pre [1] (encs ds) (encs es)).lt0 nxy
    simpa only [encs, List.cons_append, List.nil_append] using this
theorem encs_tail {d : PyData} {ds es : List PyData} : encs (d :: ds) < encs (d :: es) ↔ encs ds < encs es := by
  have := lt_pre (1 :: enc d) (encs ds) (encs es)
  simpa only [encs, List.cons_append] using this
theorem encs_nil {es : List PyData} : encs [] < encs es ↔ es ≠ [] := by
  cases es with
  | nil =>
    simp only [encs, ne_eq, not_true, iff_false]
    exact List.lt_irrefl _
  | cons e es =>
    simp only [encs, ne_eq, reduceCtorEq, not_false_eq_true, iff_true, List.cons_lt_cons_iff]
    exact .inl (by decide)
theorem encs_nil_r {ds : List PyData} : ¬ encs ds < encs [] := by
  cases ds with
  | nil =>
    simp only [encs]
    exact List.lt_irrefl _
  | cons d ds =>
    simp only [encs, List.cons_lt_cons_iff]
    rintro (h | ⟨h, _⟩)
    · exact absurd h (by decide)
    · exact absurd h (by decide)
end Sd

set_option maxRecDepth 100000
set_option maxHeartbeats 4000000
/-! data compared by Python's less -/
namespace Sd
open PySem PySem.Spec PyProof.Rows L2
open PySem.AutoSeq1 (wpAny_loadPart')
/-- data of up to n parts are compared by their codes -/
def LtOk (n : Nat) : Prop := ∀ (d e : PyData), sizeOf d ≤ n → like d e = true → keyD d = true → keyD e = true → ∀ (A : Around) (s : Shared) (u v : Value) (as bs : List Addr), Reads s.heap u d as → Reads s.heap v e bs → A.units + d.depth < cLine →
  ∀ (prog : Program) (w : World) (E : Value → Shared → Prop) (Q : Value → Shared → Prop), Q (.bool (decide (enc d < enc e))) s → wpAny (model prog w) A (richCompare .Lt u v) Q E s
theorem tup_less {n : Nat} (step : LtOk n) {ds es : List PyData} (hn : sizeOf ds ≤ n) (hk : likes ds es = true) (kd : keyDs ds = true) (ke : keyDs es = true) (l b : Addr) (items items2 : Array Value) (c c2 : Nat) (dd dd2 : Option Addr) (sl sl2 : Array (Option Value)) :
    Meets (Builtin.«tuple.__lt__» ⟨[.ref l, .ref b], []⟩)
      (fun A R s => (A.units + 1 + PyData.depthAll ds < cLine ∧ ∃ as bs, ReadsAll s.heap items.toList ds as ∧ ReadsAll s.heap items2.toList es bs) ∧ s.heap.get? l = some { cls := .type "tuple", dict := dd, data := .seq items c, slots := sl } ∧
        s.heap.get? b = some { cls := .type "tuple", dict := dd2, data := .seq items2 c2, slots := sl2 } ∧ R (.ok (.ret (.bool (decide (encs ds < encs es))))) s) := by
  intro prog w A R s h
  obtain ⟨hp, g, dr, tk, os⟩ := s
  obtain ⟨⟨hu, as, bs, rd, re⟩, hl, hb, h⟩ := h
  have f2 := AutoSeq1.sub_tuple_tuple
  have len : ∀ {vs : List Value} {ds : List PyData} {as : List Addr}, ReadsAll hp vs ds as → vs.length = ds.length := fun {vs} => by
    induction vs with
    | nil => intro ds as r; cases r; rfl
    | cons v vs ih => intro ds as r; cases r with | cons r1 r2 => rw [List.length_cons, List.length_cons, ih r2]
  have z1 : items.size = ds.length := by rw [← Array.length_toList, len rd]
  have z2 : items2.size = es.length := by rw [← Array.length_toList, len re]
  wp_walk using wpAny_loadPart' hl, wpAny_loadPart' hb, wpAny_forIn_list _ (fun rest b s' => b.1 = none ∧ s' = ⟨hp, g, dr, tk, os⟩ ∧ ∃ (vs ws : List Value) (ds' es' : List PyData) (as' bs' : List Addr), rest = vs.zip ws ∧
      ReadsAll hp vs ds' as' ∧ ReadsAll hp ws es' bs' ∧ (sizeOf ds' ≤ n ∧ likes ds' es' = true ∧ keyDs ds' = true ∧ keyDs es' = true ∧ PyData.depthAll ds' ≤ PyData.depthAll ds) ∧ ds'.length + items2.size = es'.length + items.size ∧ R (.ok (.ret (.bool (decide (encs ds' < encs es'))))) ⟨hp, g, dr, tk, os⟩) _
  case turn =>
    rintro ⟨y, x⟩ rest b s' ⟨hb', rfl, vs, ws, ds', es', as', bs', hz, r1, r2, ⟨m1, m2, m3, m4, m5⟩, hlen, hR⟩
    cases r1 with
    | nil => rw [List.zip_nil_left] at hz; cases hz
    | @cons v1 vs1 d1 ds1 a1 a2 q1 q2 =>
      cases r2 with
      | nil => rw [List.zip_nil_right] at hz; cases hz
      | @cons w1 ws1 e1 es1 b1 b2 p1 p2 =>
        rw [List.zip_cons_cons] at hz
        injection hz with hyx hrest
        injection hyx with hy hx
        subst hy hx
        simp only [List.length_cons] at hlen
        simp only [likes, Bool.and_eq_true] at m2
        simp only [keyDs, Bool.and_eq_true] at m3 m4
        simp only [PyData.depthAll] at m5
        have ms : sizeOf d1 ≤ n ∧ sizeOf ds1 ≤ n := by
          simp at m1
          omega
        have he : ∀ (Q' : Bool → Shared → Prop) (E' : Value → Shared → Prop), Q' (PyData.eqv d1 e1) ⟨hp, g, dr, tk, os⟩ → wpAny (model prog w) A.in1 (eqBool y x) Q' E' ⟨hp, g, dr, tk, os⟩ := fun Q' E' hq =>
          SeqAt.eqAt_reads d1 e1 A.in1 ⟨hp, g, dr, tk, os⟩ y x a1 b1 q1 p1 (keyD_lay _ m3.1) (keyD_lay _ m4.1) (by show A.units + 1 + _ < _; omega) prog w E' Q' hq
        by_cases same : d1 = e1
        · subst same
          refine wpAny_bind (he _ _ ?_)
          rw [(eqv_same m3.1 m3.1).mpr rfl]
          have ee : decide (encs (d1 :: ds1) < encs (d1 :: es1)) = decide (encs ds1 < encs es1) := decide_eq_decide.mpr encs_tail
          rw [ee] at hR
          wp_walk
          exact ⟨rfl, rfl, _, _, _, _, _, _, hrest, q2, p2, ⟨ms.2, m2.2, m3.2, m4.2, by omega⟩, by omega, hR⟩
        · refine wpAny_bind (he _ _ ?_)
          have ne : PyData.eqv d1 e1 = false := by
            cases z : PyData.eqv d1 e1 with
            | false => rfl
            | true => exact absurd ((eqv_same m3.1 m4.1).mp z) same
          rw [ne]
          have ee : decide (encs (d1 :: ds1) < encs (e1 :: es1)) = decide (enc d1 < enc e1) := decide_eq_decide.mpr (encs_head m2.1 same)
          rw [ee] at hR
          have hri : ∀ (E' Q' : Value → Shared → Prop), Q' (.bool (decide (enc d1 < enc e1))) ⟨hp, g, dr, tk, os⟩ → wpAny (model prog w) A.in1 (richCompare .Lt y x) Q' E' ⟨hp, g, dr, tk, os⟩ := fun E' Q' hq =>
            step d1 e1 ms.1 m2.1 m3.1 m4.1 A.in1 ⟨hp, g, dr, tk, os⟩ y x a1 b1 q1 p1 (by show A.units + 1 + _ < _; omega) prog w E' Q' hq
          wp_walk using hri
          first | exact hR | exact ⟨_, rfl, by simpa using hR⟩
  case fin =>
    rintro ⟨b1, b2⟩ s' ⟨hb', rfl, vs, ws, ds', es', as', bs', hz, r1, r2, ⟨m1, m2, m3, m4, m5⟩, hlen, hR⟩
    simp only at hb'
    subst hb'
    have hv : decide (encs ds' < encs es') = decide (items.size < items2.size) := by
      cases r1 with
      | nil =>
        refine decide_eq_decide.mpr (encs_nil.trans ?_)
        cases r2 with
        | nil =>
          simp only [List.length_nil] at hlen
          exact ⟨fun z => absurd rfl z, fun z => by omega⟩
        | cons p1 p2 =>
          simp only [List.length_nil, List.length_cons] at hlen
          exact ⟨fun _ => by omega, fun _ z => by cases z⟩
      | cons q1 q2 =>
        cases r2 with
        | nil =>
          simp only [List.length_nil, List.length_cons] at hlen
          rw [decide_eq_false encs_nil_r]
          exact (decide_eq_false (by omega)).symm
        | cons p1 p2 =>
          rw [List.zip_cons_cons] at hz
          cases hz
    rw [hv] at hR
    wp_walk
    first | exact hR | exact ⟨_, rfl, by simpa [Builtin.Tuple.tupleCompareSizes] using hR⟩ | simpa [Builtin.Tuple.tupleCompareSizes] using hR
  case h =>
    exact ⟨rfl, rfl, items.toList, items2.toList, ds, es, as, bs, rfl, rd, re, ⟨hn, hk, kd, ke, Nat.le_refl _⟩, by omega, h⟩
theorem lt_ok : ∀ n : Nat, LtOk n := by
  intro n
  induction n with
  | zero =>
    intro d e h
    cases d <;> simp at h
  | succ n step =>
    intro d e h k kd ke A s u v as bs r1 r2 hu prog w E Q q
    cases r1 with
    | int i t =>
      cases e with
      | int j =>
        cases r2
        refine (PyProof.Rows.lt_int ?_ : wpAny (model prog w) A (compareOp .Lt _ _) Q E s)
        have e1 : decide (enc (.int i) < enc (.int j)) = decide (i < j) := by
          refine decide_eq_decide.mpr ?_
          simp only [enc, List.cons_lt_cons_iff]
          exact ⟨fun z => z.elim id fun z => absurd z.2 (List.lt_irrefl _), .inl⟩
        rw [e1] at q
        exact q
      | _ => simp [like] at k
    | str x t =>
      cases e with
      | str y =>
        cases r2
        refine (PyProof.Rows.lt_str ?_ : wpAny (model prog w) A (compareOp .Lt _ _) Q E s)
        have e1 : decide (enc (.str x) < enc (.str y)) = decide (x.cps.toList < y.cps.toList) := by
          refine decide_eq_decide.mpr ?_
          simp only [enc]
          rcases chars_dif x.cps.toList y.cps.toList with c | ⟨a, b, ne, h1, h2⟩
          · rw [c]
            exact ⟨fun z => absurd z (List.lt_irrefl _), fun z => absurd z (List.lt_irrefl _)⟩
          · rw [h2]
            exact h1.lt0 ne
        rw [e1] at q
        exact q
      | _ => simp [like] at k
    | @tuple a o vs c ds as h1 h2 h3 h4 =>
      cases e with
      | tuple es =>
        cases r2 with
        | @tuple a' o' vs' c' _ bs h1' h2' h3' h4' =>
          obtain ⟨cls, dd, data, sl⟩ := o
          obtain ⟨cls', dd', data', sl'⟩ := o'
          simp only at h2 h3 h2' h3'
          subst h2 h3 h2' h3'
          simp only [like] at k
          simp only [keyD] at kd ke
          simp only [PyData.depth] at hu
          simp only [enc] at q
          exact richCompare_meets_room (op := .Lt) ⟨_, h1, rfl⟩ ⟨_, h1', rfl⟩ PySem.F.slot_tuple_lt PySem.F.entry_tuple_lt (PySem.F.args_tuple_lt_2 _ _) (tup_less step (by simp at h; omega) k kd ke a a' vs vs' c c' dd dd' sl sl')
            ⟨⟨by omega, _, _, h4, h4'⟩, h1, h1', show Value.bool (decide (encs ds < encs es)) ≠ Value.notImplemented ∧ Q (.bool (decide (encs ds < encs es))) s from ⟨(fun x => nomatch x), q⟩⟩ (by omega)
      | _ => simp [like] at k
    | none => cases kd
    | bool b => cases kd
    | list _ _ _ _ => cases kd
    | dict _ _ _ _ _ => cases kd
end Sd

set_option maxRecDepth 100000
set_option maxHeartbeats 4000000
/-! lists of data sorted -/
namespace Sd
open PySem PySem.Spec PyProof.Rows L2 TS
theorem reads_tup {h h' : Heap} (k : ∀ b o, o.cls = .type "tuple" → h.get? b = some o → h'.get? b = some o) : ∀ n : Nat, (∀ (d : PyData) (v : Value) (as : List Addr), sizeOf d ≤ n → keyD d = true → Reads h v d as → Reads h' v d as) ∧
    (∀ (ds : List PyData) (vs : List Value) (as : List Addr), sizeOf ds ≤ n → keyDs ds = true → ReadsAll h vs ds as → ReadsAll h' vs ds as) := by
  intro n
  induction n with
  | zero =>
    refine ⟨fun d v as z => ?_, fun ds v as z => ?_⟩
    · cases d <;> simp at z
    · cases ds <;> simp at z
  | succ n step =>
    refine ⟨fun d v as z kd r => ?_, fun ds v as z kd r => ?_⟩
    · cases r with
      | int i t => exact .int i t
      | str x t => exact .str x t
      | tuple h1 h2 h3 h4 => exact .tuple (k _ _ h2 h1) h2 h3 (step.2 _ _ _ (by simp at z; omega) (by simpa only [keyD] using kd) h4)
      | none => cases kd
      | bool b => cases kd
      | list h1 h2 h3 h4 => cases kd
      | dict h1 h2 h3 h4 h5 => cases kd
    · cases r with
      | nil => exact .nil
      | cons h1 h2 =>
        simp only [keyDs, Bool.and_eq_true] at kd
        exact .cons (step.1 _ _ _ (by simp at z; omega) kd.1 h1) (step.2 _ _ _ (by simp at z; omega) kd.2 h2)
theorem El.tup {h h' : Heap} {p : Value × PyData} (x : El h p) (k : ∀ b o, o.cls = .type "tuple" → h.get? b = some o → h'.get? b = some o) : El h' p := by
  obtain ⟨as, r⟩ := x.is
  exact ⟨⟨as, (reads_tup k _).1 p.2 p.1 as (Nat.le_refl _) x.key r⟩, x.key, x.dep, x.ref⟩
/-! ### the order's rank -/
theorem lt_tr : ∀ {a b c : List Int}, a < b → b < c → a < c
  | [], _, [], h1, h2 => absurd h2 (List.not_lt_nil _)
  | [], _, _ :: _, _, _ => List.nil_lt_cons _ _
  | _ :: _, [], _, h1, _ => absurd h1 (List.not_lt_nil _)
  | _ :: _, _ :: _, [], _, h2 => absurd h2 (List.not_lt_nil _)
  | x :: a, y :: b, z :: c, h1, h2 => by
    rw [List.cons_lt_cons_iff] at h1 h2 ⊢
    rcases h1 with h1 | ⟨e1, h1⟩
    · rcases h2 with h2 | ⟨e2, h2⟩
      · exact .inl (by omega)
      · exact .inl (by omega)
    · rcases h2 with h2 | ⟨e2, h2⟩
      · exact .inl (by omega)
      · exact .inr ⟨by omega, lt_tr h1 h2⟩
theorem enc_tri {d e : PyData} (k : like d e = true) : d = e ∨ enc d < enc e ∨ enc e < enc d := by
  rcases enc_two k with c | ⟨x, y, ne, h⟩
  · exact .inl c
  · rcases Int.lt_trichotomy x y with z | z | z
    · exact .inr (.inl ((h.lt0 ne).mpr z))
    · exact absurd z ne
    · obtain ⟨p, r, q, h1, h2⟩ := h
      exact .inr (.inr ((Dif.lt0 (x := y) (y := x) ⟨p, q, r, h2, h1⟩ (Ne.symm ne)).mpr z))
theorem count_le {α : Type} {p q : α → Bool} : ∀ l : List α, (∀ x ∈ l, p x = true → q x = true) → (l.filter p).length ≤ (l.filter q).length
  | [], _ => Nat.le_refl _
  | x :: l, h => by
    have ih := count_le l fun y hy => h y (List.mem_cons_of_mem _ hy)
    have hx := h x List.mem_cons_self
    cases c : p x with
    | true => simp only [List.filter_cons, c, hx c, if_true, List.length_cons]; omega
    | false =>
      cases c2 : q x with
      | true => simp only [List.filter_cons, c, c2, if_true, List.length_cons, Bool.false_eq_true, if_false]; omega
      | false => simp only [List.filter_cons, c, c2, Bool.false_eq_true, if_false]; omega
theorem count_lt {α : Type} {p q : α → Bool} : ∀ l : List α, (∀ x ∈ l, p x = true → q x = true) → (∃ x ∈ l, q x = true ∧ p x = false) → (l.filter p).length < (l.filter q).length
  | [], _, ⟨x, hx, _⟩ => by cases hx
  | x :: l, h, ⟨y, hy, k1, k2⟩ => by
    have le := count_le l fun y hy => h y (List.mem_cons_of_mem _ hy)
    rcases List.mem_cons.mp hy with e | hy
    · subst e
      simp only [List.filter_cons, k1, k2, if_true, List.length_cons, Bool.false_eq_true, if_false]
      omega
    · have lt := count_lt l (fun y hy => h y (List.mem_cons_of_mem _ hy)) ⟨y, hy, k1, k2⟩
      have hx := h x List.mem_cons_self
      cases c : p x with
      | true => simp only [List.filter_cons, c, hx c, if_true, List.length_cons]; omega
      | false =>
        cases c2 : q x with
        | true => simp only [List.filter_cons, c, c2, if_true, List.length_cons, Bool.false_eq_true, if_false]; omega
        | false => simp only [List.filter_cons, c, c2, Bool.false_eq_true, if_false]; omega
/-- the data that a value is -/
noncomputable def dat (h : Heap) (v : Value) : PyData := @Classical.epsilon PyData ⟨.none⟩ fun d => keyD d = true ∧ IsD h d v
theorem dat_is {h : Heap} {p : Value × PyData} (x : El h p) : dat h p.1 = p.2 := by
  have q : keyD (dat h p.1) = true ∧ IsD h (dat h p.1) p.1 := Classical.epsilon_spec (p := fun d : PyData => keyD d = true ∧ IsD h d p.1) ⟨p.2, x.key, x.is⟩
  exact IsD.inj q.1 q.2 x.is
noncomputable def rnk (h : Heap) (vs : List Value) (v : Value) : Int := ((vs.filter fun u => decide (enc (dat h u) < enc (dat h v))).length : Nat)
theorem rnk_lt {h : Heap} {vs : List Value} (lk : ∀ u ∈ vs, ∀ v ∈ vs, like (dat h u) (dat h v) = true) {u v : Value} (hu : u ∈ vs) (hv : v ∈ vs) : rnk h vs u < rnk h vs v ↔ enc (dat h u) < enc (dat h v) := by
  unfold rnk
  constructor
  · intro lt
    apply Classical.byContradiction
    intro no
    have le : (vs.filter fun x => decide (enc (dat h x) < enc (dat h v))).length ≤ (vs.filter fun x => decide (enc (dat h x) < enc (dat h u))).length := by
      refine count_le vs fun x hx c => ?_
      rw [decide_eq_true_eq] at c ⊢
      rcases enc_tri (lk u hu v hv) with e | e | e
      · rw [e]
        exact c
      · exact absurd e no
      · exact lt_tr c e
    omega
  · intro lt
    have := count_lt (p := fun x => decide (enc (dat h x) < enc (dat h u))) (q := fun x => decide (enc (dat h x) < enc (dat h v))) vs (fun x hx c => by
      rw [decide_eq_true_eq] at c ⊢
      exact lt_tr c lt) ⟨u, hu, decide_eq_true lt, decide_eq_false (List.lt_irrefl _)⟩
    omega
section
variable {prog : Program} {w : World} {A : Around} {E : Value → Shared → Prop} {s : Shared}
/-! ### what the sort asks -/
theorem lex_el {b fin : Bool} {Q : Bool → Shared → Prop} : ∀ (xs ys : List Value) (ds es : List PyData) (as bs : List Addr) (i : Nat), ReadsAll s.heap xs ds as → ReadsAll s.heap ys es bs → likes ds es = true → keyDs ds = true → keyDs es = true →
    A.units + PyData.depthAll ds < cLine → fin = decide (ds.length < es.length) → (b = true → i = 0 → ∃ m k r q, ds = .int m :: r ∧ es = .int k :: q) → Q (decide (encs ds < encs es)) s → PySem.W.KatLex prog w A b fin Q (xs.zip ys) i s := by
  intro xs
  induction xs with
  | nil =>
    intro ys ds es as bs i r1 r2 k kd ke hu hf _ q
    cases r1
    rw [List.zip_nil_left]
    apply PySem.W.kat_nil
    have e : decide (encs [] < encs es) = fin := by
      rw [hf]
      refine decide_eq_decide.mpr (encs_nil.trans ?_)
      cases es with
      | nil => simp
      | cons e es => simp
    rw [e] at q
    exact q
  | cons x xs step =>
    intro ys ds es as bs i r1 r2 k kd ke hu hf hb q
    cases r1 with
    | @cons _ _ d ds' a1 a2 q1 q2 =>
      cases r2 with
      | nil =>
        rw [List.zip_nil_right]
        apply PySem.W.kat_nil
        rw [decide_eq_false encs_nil_r] at q
        have e : fin = false := by
          rw [hf]
          exact decide_eq_false (by simp)
        rw [e]
        exact q
      | @cons y ys' e es' b1 b2 p1 p2 =>
        simp only [likes, Bool.and_eq_true] at k
        simp only [keyDs, Bool.and_eq_true] at kd ke
        simp only [PyData.depthAll] at hu
        rw [List.zip_cons_cons]
        apply PySem.W.kat_cons
        refine SeqAt.eqAt_reads d e A s x y a1 b1 q1 p1 (keyD_lay _ kd.1) (keyD_lay _ ke.1) (by omega) prog w _ _ ?_
        by_cases same : d = e
        · subst same
          rw [(eqv_same kd.1 kd.1).mpr rfl]
          apply PySem.W.kat_yes
          have ee : decide (encs (d :: ds') < encs (d :: es')) = decide (encs ds' < encs es') := decide_eq_decide.mpr encs_tail
          rw [ee] at q
          exact step ys' ds' es' a2 b2 (i + 1) q2 p2 k.2 kd.2 ke.2 (by omega) (by rw [hf]; simp) (fun _ z => by omega) q
        · have ne : PyData.eqv d e = false := by
            cases z : PyData.eqv d e with
            | false => rfl
            | true => exact absurd ((eqv_same kd.1 ke.1).mp z) same
          rw [ne]
          apply PySem.W.kat_no
          have ee : decide (encs (d :: ds') < encs (e :: es')) = decide (enc d < enc e) := decide_eq_decide.mpr (encs_head k.1 same)
          rw [ee] at q
          cases c : (b && i == 0) with
          | true =>
            rw [Bool.and_eq_true, beq_iff_eq] at c
            obtain ⟨m, j, r, t, z1, z2⟩ := hb c.1 c.2
            injection z1 with z1 _
            injection z2 with z2 _
            subst z1
            subst z2
            cases q1
            cases p1
            apply oneLt_int
            have e1 : decide (enc (.int m) < enc (.int j)) = decide (m < j) := by
              refine decide_eq_decide.mpr ?_
              simp only [enc, List.cons_lt_cons_iff]
              exact ⟨fun z => z.elim id fun z => absurd z.2 (List.lt_irrefl _), .inl⟩
            rw [e1] at q
            exact q
          | false =>
            apply PySem.W.kat_one
            exact lt_ok _ d e (Nat.le_refl _) k.1 kd.1 ke.1 A s x y a1 b1 q1 p1 (by omega) prog w _ _ q
/-- the head of a tuple: a whole number, or a tuple -/
def headOk (hi : Bool) (d : PyData) : Prop := ∃ f r, d = .tuple (f :: r) ∧ (if hi = true then ∃ i, f = .int i else ∃ ds, f = .tuple ds)
structure Sorts (h : Heap) (hi : Bool) (vs : List Value) : Prop where
  el : ∀ v ∈ vs, ∃ d, El h (v, d) ∧ headOk hi d
  lk : ∀ u ∈ vs, ∀ v ∈ vs, like (dat h u) (dat h v) = true
theorem firsts_el {h : Heap} {hi : Bool} : ∀ vs : List Value, (∀ v ∈ vs, ∃ d, El h (v, d) ∧ headOk hi d) → ∃ fs, PySem.W.KatTups h vs fs ∧ fs.length = vs.length ∧ ∀ f ∈ fs, ∃ d as, Reads h f d as ∧ (if hi = true then ∃ i, d = .int i else ∃ ds, d = .tuple ds)
  | [], _ => ⟨[], PySem.W.KatTups.nil, rfl, fun f hf => by simp at hf⟩
  | v :: vs, x => by
    obtain ⟨fs, k, hl, hi'⟩ := firsts_el vs fun u hu => x u (List.mem_cons_of_mem _ hu)
    obtain ⟨d, el, f, r, rfl, hf⟩ := x v List.mem_cons_self
    obtain ⟨as, rd⟩ := el.is
    have rd' : Reads h v (.tuple (f :: r)) as := rd
    cases rd' with
    | @tuple a o xs n _ _ h1 h2 h3 h4 =>
      generalize e : xs.toList = l at h4
      cases h4 with
      | @cons y ys _ _ a1 a2 q1 q2 =>
        refine ⟨y :: fs, PySem.W.KatTups.cons h1 h2 h3 ?_ k, by simp [hl], ?_⟩
        · have z := congrArg (fun l : List Value => l[0]?) e
          simpa using z
        · intro g hg
          rcases List.mem_cons.mp hg with rfl | hg
          · exact ⟨f, a1, q1, hf⟩
          · exact hi' g hg
theorem kind_els {hi : Bool} {vs : List Value} (h2 : 2 ≤ vs.length) (x : Sorts s.heap hi vs) (hu : A.units + 16 < cLine) (Q : SortKind → Shared → Prop) (h : ∀ κ, Cmp prog w A s κ (pairsOf vs) (rnk s.heap vs) → Q κ s) : wpAny (model prog w) A (keyKind' vs.toArray) Q E s := by
  obtain ⟨fs, k, hl, hf⟩ := firsts_el vs x.el
  have go : ∀ b : Bool, (b = true → hi = true) → Cmp prog w A s (tuples' b) (pairsOf vs) (rnk s.heap vs) := by
    intro b hb p q hp hq Q' E' hQ
    rw [pairsOf_toList] at hp hq
    obtain ⟨m1, n1⟩ := mem_zip_self hp
    obtain ⟨m2, n2⟩ := mem_zip_self hq
    obtain ⟨d, el, f, r, rfl, hh⟩ := x.el _ n1
    obtain ⟨e, el', f', r', rfl, hh'⟩ := x.el _ n2
    have lk := x.lk _ n1 _ n2
    have rk := rnk_lt x.lk n1 n2
    have d1 : dat s.heap p.1 = .tuple (f :: r) := dat_is el
    have d2 : dat s.heap q.1 = .tuple (f' :: r') := dat_is el'
    rw [d1, d2] at lk rk
    have hQ' : Q' (decide (encs (f :: r) < encs (f' :: r'))) s := by
      have z : decide (rnk s.heap vs p.1 < rnk s.heap vs q.1) = decide (encs (f :: r) < encs (f' :: r')) := by
        refine decide_eq_decide.mpr (rk.trans ?_)
        simp only [enc]
      rw [← z]
      exact hQ
    obtain ⟨as, rd⟩ := el.is
    obtain ⟨bs, re⟩ := el'.is
    have k1 := el.key
    have k2 := el'.key
    have dp := el.dep
    simp only [keyD] at k1 k2
    simp only [PyData.depth] at dp
    simp only [like] at lk
    have rd' : Reads s.heap p.1 (.tuple (f :: r)) as := rd
    have re' : Reads s.heap q.1 (.tuple (f' :: r')) bs := re
    generalize e1 : p.1 = u at rd'
    generalize e2 : q.1 = v at re'
    cases rd' with
    | @tuple a o xs n _ _ h1 h2 h3 h4 =>
      cases re' with
      | @tuple a' o' ys n' _ _ h1' h2' h3' h4' =>
        refine PySem.W.kat_lt h1 h3 h1' h3' ?_
        have len : ∀ {vs : List Value} {ds : List PyData} {as : List Addr}, ReadsAll s.heap vs ds as → vs.length = ds.length := fun {vs} => by
          induction vs with
          | nil => intro ds as r; cases r; rfl
          | cons v vs ih => intro ds as r; cases r with | cons r1 r2 => rw [List.length_cons, List.length_cons, ih r2]
        refine lex_el xs.toList ys.toList (f :: r) (f' :: r') _ _ 0 h4 h4' lk k1 k2 (by omega) ?_ (fun c _ => ?_) hQ'
        · rw [← len h4, ← len h4', Array.length_toList, Array.length_toList]
        · have hc := hb c
          rw [hc] at hh hh'
          simp only [if_true] at hh hh'
          obtain ⟨i, rfl⟩ := hh
          obtain ⟨j, rfl⟩ := hh'
          exact ⟨i, j, r, r', rfl, rfl⟩
  cases hi with
  | true =>
    refine PySem.W.kat_kind (T := Value.type "int") k (by omega) (fun f hm => ?_) rfl (h _ (go _ fun _ => rfl))
    obtain ⟨d, as, r, hd⟩ := hf f hm
    simp only [if_true] at hd
    obtain ⟨i, rfl⟩ := hd
    cases r
    exact PySem.W.Looks.of_pure rfl
  | false =>
    refine PySem.W.kat_kind (T := Value.type "tuple") k (by omega) (fun f hm => ?_) rfl (h _ (go _ fun c => by cases c))
    obtain ⟨d, as, r, hd⟩ := hf f hm
    simp only [Bool.false_eq_true, if_false] at hd
    obtain ⟨ds, rfl⟩ := hd
    cases r with
    | @tuple a o xs n _ _ h1 h2 h3 h4 =>
      have := (PySem.W.Looks.ld (M := model prog w) (part := none) h1)
      exact h2 ▸ (show PySem.W.Looks (model prog w) s.heap (typeOf (.ref a)) o.cls from (PySem.W.Looks.ld h1).andThen .now)
end
end Sd

set_option maxRecDepth 100000
set_option maxHeartbeats 4000000
/-! sorted(set(..)) of data -/
namespace Sd
open PySem PySem.Spec PyProof.Rows L2 TS
section
variable {prog : Program} {w : World} {A : Around} {E : Value → Shared → Prop} {s : Shared}
/-- the sort of a list of such values -/
theorem sort_els {a : Addr} {vs : List Value} {n : Nat} {hi : Bool} {Q : Value → Shared → Prop} (oz : s.heap.get? a = some (seqObj "list" vs.toArray n)) (few : vs.length < 64) (x : Sorts s.heap hi vs) (hu : A.units + 17 < cLine)
    (k : ∀ out : Array Value, out.toList.Perm vs → out.toList.Pairwise (fun u v => rnk s.heap vs u ≤ rnk s.heap vs v) → Q .none { s with heap := sortedHeap s.heap a vs out }) : wpAny (model prog w) A (call (.builtin "list.sort") [.ref a]) Q E s := by
  have kp : ∀ b o, o.cls = .type "tuple" → s.heap.get? b = some o → (midHeap s.heap a vs).get? b = some o := fun b o hc e => by
    refine midHeap_old ?_ e
    rintro rfl
    rw [oz] at e
    cases e
    have hc' : Value.type "list" = Value.type "tuple" := hc
    injection hc' with hc'
    exact absurd hc' (by decide)
  have same : ∀ v ∈ vs, dat (midHeap s.heap a vs) v = dat s.heap v := fun v hv => by
    obtain ⟨d, el, _⟩ := x.el v hv
    exact (dat_is (el.tup kp)).trans (dat_is el).symm
  have x2 : Sorts (midHeap s.heap a vs) hi vs := ⟨fun v hv => by
    obtain ⟨d, el, hd⟩ := x.el v hv
    exact ⟨d, el.tup kp, hd⟩, fun u hu v hv => by
    rw [same u hu, same v hv]
    exact x.lk u hu v hv⟩
  have rs : ∀ v ∈ vs, rnk (midHeap s.heap a vs) vs v = rnk s.heap vs v := fun v hv => by
    unfold rnk
    rw [same v hv]
    have : vs.filter (fun u => decide (enc (dat (midHeap s.heap a vs) u) < enc (dat s.heap v))) = vs.filter (fun u => decide (enc (dat s.heap u) < enc (dat s.heap v))) := List.filter_congr fun u hu => by rw [same u hu]
    rw [this]
  refine wpAny_call_entry slot_list_sort ⟨_, oz, rfl⟩ entry_list_sort (SK.plain_sort (r := rnk s.heap vs) oz few (fun h2 Q' hQ => ?_) fun ps out h1 h2 h3 => ?_) (args_list_sort _)
  · refine kind_els (s := { s with heap := midHeap s.heap a vs }) h2 x2 (by show A.units + 1 + 16 < cLine; omega) Q' fun κ hc => hQ κ fun p q hp hq Q'' E'' q'' => hc p q hp hq Q'' E'' ?_
    rw [pairsOf_toList] at hp hq
    show Q'' (decide (rnk (midHeap s.heap a vs) vs p.1 < rnk (midHeap s.heap a vs) vs q.1)) _
    rw [rs _ (mem_zip_self hp).2, rs _ (mem_zip_self hq).2]
    exact q''
  · obtain ⟨p, o⟩ := out_rank h1 h2 h3
    exact ⟨_, rfl, k out p o⟩
theorem nodup_map {α β : Type} {f : α → β} {l : List α} (h : (l.map f).Nodup) : l.Nodup := List.Pairwise.of_map f (fun _ _ ne e => ne (congrArg f e)) h
/-- sorted(set) -/
theorem sorted_set {a : Addr} {L : Els} {es : Array (Int × Value)} {ep : Nat} {t : SetTable} {hi : Bool} {Q : Value → Shared → Prop} (R : SetD prog w s.heap a L es ep t) (nh : A.handled = none) (hu : A.units + 20 < cLine)
    (hd : ∀ p ∈ L, headOk hi p.2) (lk : ∀ p ∈ L, ∀ q ∈ L, like p.2 q.2 = true)
    (k : ∀ s' p (out : Array Value) (c : Nat) (L' : Els), (∀ b o, s.heap.get? b = some o → s'.heap.get? b = some o) → s'.gens = s.gens → s'.os = s.os → s.heap.objs.size ≤ p → s'.heap.get? p = some (seqObj "list" out c) → out.toList = L'.map (·.1) → L'.Perm L →
      L'.Pairwise (fun q r => ¬ enc r.2 < enc q.2) → Q (.ref p) s') : wpAny (model prog w) A (call (.builtin "sorted") [.ref a]) Q E s := by
  obtain ⟨o, oz, xz, dz⟩ := R.ob
  have slz := R.size
  have few := R.few
  refine Calls.call_function_entry kind_sorted plain_sorted entry_sorted (args_sorted1 _) ?_
  unfold Builtin.«sorted»
  apply wpAny_bind (m := checkCount "sorted" 1 1 _)
  apply wpAny_pure
  apply wpAny_bind
  refine collect_set (A := A.in1) nh ⟨o, oz, xz.1, dz⟩ R.fits (by unfold scanBound; omega) R.tab.ris R.led fun s1 vs k1 sz g1 o1 prm => ?_
  have rws : es.toList.map (·.2) = L.map (·.1) := by
    rw [R.rows, rowsD, List.map_map]
    rfl
  rw [rws] at prm
  have back : ∀ vs : List Value, (∀ v ∈ vs, ∃ q ∈ L, v = q.1) → ∃ L1 : Els, vs = L1.map (·.1) ∧ ∀ q ∈ L1, q ∈ L := by
    intro vs
    induction vs with
    | nil => exact fun _ => ⟨[], rfl, fun q hq => by cases hq⟩
    | cons v vs step =>
      intro hv
      obtain ⟨q, hq, e⟩ := hv v List.mem_cons_self
      obtain ⟨L1, e1, m⟩ := step fun u hu => hv u (List.mem_cons_of_mem _ hu)
      refine ⟨q :: L1, by rw [List.map_cons, e, e1], fun r hr => ?_⟩
      rcases List.mem_cons.mp hr with z | z
      · rw [z]
        exact hq
      · exact m r z
  have one : ∀ q ∈ L, ∀ r ∈ L, q.1 = r.1 → q = r := fun q hq r hr e => by
    have x1 := (R.el q hq).is
    rw [e] at x1
    exact Prod.ext e (IsD.inj (R.el q hq).key x1 (R.el r hr).is)
  have permL : ∀ L1 : Els, (∀ q ∈ L1, q ∈ L) → (L1.map (·.1)).Perm (L.map (·.1)) → L1.Perm L := by
    intro L1 m pm1
    have nL : L.Nodup := nodup_map R.nd
    have nv : (L.map (·.1)).Nodup := List.pairwise_map.mpr (List.Pairwise.imp_of_mem (fun {q r} hq hr ne e => ne (one q hq r hr e)) nL)
    refine (List.perm_ext_iff_of_nodup (nodup_map (pm1.nodup_iff.mpr nv)) nL).mpr fun q => ⟨m q, fun hq => ?_⟩
    obtain ⟨r, hr, e⟩ := List.mem_map.mp (pm1.mem_iff.mpr (List.mem_map.mpr ⟨q, hq, rfl⟩))
    rw [← one r (m r hr) q hq e]
    exact hr
  have vlen : vs.length < 64 := by rw [prm.length_eq, List.length_map]; exact few
  apply wpAny_bind
  apply wpAny_newList _ (by rw [sizeLine_eq]; omega)
  have oL : (s1.heap.push (seqObj "list" vs.toArray 0)).get? s1.heap.objs.size = some (seqObj "list" vs.toArray 0) := Heap.get?_push_size _ rfl
  have elL : ∀ q ∈ L, El (s1.heap.push (seqObj "list" vs.toArray 0)) q := fun q hq => (R.el q hq).keep fun b u e => Heap.get?_push_of_some _ (k1 b u e)
  have vin : ∀ v ∈ vs, ∃ q ∈ L, v = q.1 := fun v hv => by
    obtain ⟨q, hq, e⟩ := List.mem_map.mp (prm.mem_iff.mp hv)
    exact ⟨q, hq, e.symm⟩
  have srt : Sorts (s1.heap.push (seqObj "list" vs.toArray 0)) hi vs := ⟨fun v hv => by
    obtain ⟨q, hq, rfl⟩ := vin v hv
    exact ⟨q.2, elL q hq, hd q hq⟩, fun u hu v hv => by
    obtain ⟨q, hq, rfl⟩ := vin u hu
    obtain ⟨r, hr, rfl⟩ := vin v hv
    rw [dat_is (elL q hq), dat_is (elL r hr)]
    exact lk q hq r hr⟩
  apply wpAny_bind
  apply wpAny_holding
  refine sort_els (s := { s1 with heap := s1.heap.push (seqObj "list" vs.toArray 0) }) oL vlen srt (by show A.units + 1 + 17 < cLine; omega) fun out a1 a2 => ?_
  obtain ⟨c, hc⟩ := sortedHeap_at (vs := vs) (out := out) oL
  obtain ⟨L', e', hs'⟩ := back out.toList fun v hv => vin v (a1.mem_iff.mp hv)
  have pL : L'.Perm L := permL L' hs' (by rw [← e']; exact a1.trans prm)
  have pw : L'.Pairwise (fun q r => ¬ enc r.2 < enc q.2) := by
    rw [e'] at a2
    refine List.Pairwise.imp_of_mem (fun {q r} hq hr le lt => ?_) (List.pairwise_map.mp a2)
    have mq : q.1 ∈ vs := a1.mem_iff.mp (by rw [e']; exact List.mem_map.mpr ⟨q, hq, rfl⟩)
    have mr : r.1 ∈ vs := a1.mem_iff.mp (by rw [e']; exact List.mem_map.mpr ⟨r, hr, rfl⟩)
    have z := (rnk_lt srt.lk mr mq).mpr (by rw [dat_is (elL q (hs' q hq)), dat_is (elL r (hs' r hr))]; exact lt)
    exact absurd z (Int.not_lt.mpr le)
  refine wpAny_pure ⟨_, rfl, k _ s1.heap.objs.size out c L' (fun b u e => ?_) g1 o1 sz hc e' pL pw⟩
  have q := k1 b u e
  have lt := Heap.lt_size q
  show (sortedHeap (s1.heap.push (seqObj "list" vs.toArray 0)) s1.heap.objs.size vs out).get? b = some u
  rw [sortedHeap_old (Nat.ne_of_lt lt) (by rw [size_push']; exact Nat.lt_succ_of_lt lt)]
  exact Heap.get?_push_of_some _ q
end
/-! ### as rules -/
abbrev Ks := List (Addr × PyData)
def elsOf (ks : Ks) : Els := ks.map fun p => (Value.ref p.1, p.2)
structure SetD0 (P : Program) (w : World) (h : Heap) (a : Addr) (L : Ks) : Prop where
  ex : ∃ (es : Array (Int × Value)) (ep : Nat) (t : SetTable), (∃ o, h.get? a = some o ∧ o.ExactSet ∧ o.data = .set es ep t) ∧ es.toList = rowsD w (elsOf L) ∧ TabOk t (hashesD w (elsOf L)) ∧ ((elsOf L).map (·.2)).Nodup ∧
    (w.params.followText "set-order" = true ∨ t.led = true) ∧ (elsOf L).length * 5 < t.mask * 3 ∧ (elsOf L).length < 64
def SetDO (P : Program) (w : World) (a : Addr) (L : Ks) : HO := .ext fun h => SetD0 P w h a L
theorem setDO_new {P : Program} {w : World} {H : Hp} {h : Heap} {a : Addr} {L : Ks} (R : SetD0 P w h a L) : ObjOk P w H h a (SetDO P w a L) := by
  have ⟨es, ep, t, ⟨o, oz, r⟩, q⟩ := R.ex
  refine ⟨R, ⟨o, oz⟩, fun h1 h2 p k => ?_⟩
  have ⟨es', ep', t', ⟨o', oz', r'⟩, q'⟩ := SetD0.ex p
  exact ⟨es', ep', t', ⟨o', k o' oz', r'⟩, q'⟩
theorem refs_are : ∀ {ks : Ks} {us : List Value}, Vals (ks.map fun p => V.ref p.1) us → us = ks.map fun p => Value.ref p.1
  | [], _, .nil => rfl
  | p :: ks, _, .cons r t => by
    cases r
    rw [refs_are t] <;> rfl
theorem vals_are : ∀ ks : Ks, Vals (ks.map fun p => V.ref p.1) (ks.map fun p => Value.ref p.1)
  | [] => .nil
  | p :: ks => .cons rfl (vals_are ks)
section
variable {X : Cx}
theorem el_of {pins : List (Addr × Obj)} {σ : L2.St} {H : Hp} {s : Shared} {p : Addr × PyData} (I : Inv X pins σ H s) (h : Dl.Da X.K H (.ref p.1) p.2) (kd : keyD p.2 = true) (dp : p.2.depth ≤ 8) : El s.heap (Value.ref p.1, p.2) := by
  obtain ⟨as, r⟩ := L2.Dp.reads I p.2 _ (.ref p.1) (Dl.da_plain h (Dl.noDict_lay _ (keyD_lay _ kd))) rfl
  exact ⟨⟨as, r⟩, kd, dp, ⟨p.1, rfl⟩⟩
def rSetD (K : PySem.W.Frag) (P : Program) (w : World) : List V → Hp → VK → Prop := fun xs H Q => ∃ (l : Addr) (ks : Ks), xs = [V.ref l] ∧ SqL K H l (ks.map fun p => V.ref p.1) ∧ (∀ p ∈ ks, Dl.Da K H (.ref p.1) p.2 ∧ keyD p.2 = true ∧ p.2.depth ≤ 8) ∧ ks.length < 64 ∧
  ∀ a L, H a = none → (∀ p ∈ L, p ∈ ks) → (∀ p ∈ ks, p.2 ∈ L.map (·.2)) → (L.map (·.2)).Nodup → Q (.ref a) (upd H a (SetDO P w a L))
theorem els_snd (L : Ks) : (elsOf L).map (·.2) = L.map (·.2) := by
  unfold elsOf
  rw [List.map_map]
  rfl
theorem els_back {ks : Ks} : ∀ {L : Els}, (∀ p ∈ L, p ∈ elsOf ks) → ∃ L' : Ks, L = elsOf L' ∧ ∀ p ∈ L', p ∈ ks := by
  intro L
  induction L with
  | nil => exact fun _ => ⟨[], rfl, fun p hp => by cases hp⟩
  | cons q L step =>
    intro h
    obtain ⟨L', e, m⟩ := step fun p hp => h p (List.mem_cons_of_mem _ hp)
    obtain ⟨r, hr, e2⟩ := List.mem_map.mp (h q List.mem_cons_self)
    refine ⟨r :: L', by rw [e, ← e2]; rfl, fun p hp => ?_⟩
    rcases List.mem_cons.mp hp with z | z
    · rw [z]
      exact hr
    · exact m p z
theorem cr_setD (hc : X.calm = true) (hu : X.A.units + 64 < cLine) : CallR X (.type "set") (rSetD X.K X.prog X.w) := by
  intro pins s σ H xs us Q I r h
  obtain ⟨l, ks, rfl, hl, hk, hf, q⟩ := h
  rw [Vals.ref1 r]
  obtain ⟨its, rv, pl, hz⟩ := I.list hl
  have hn : H s.heap.objs.size = none := I.hok.fresh (Nat.le_refl _)
  have its' : its.toArray.toList = (elsOf ks).map fun p => p.1 := by
    have e := refs_are rv
    unfold elsOf
    rw [List.map_map]
    exact e
  refine call_set_els (P := X.prog) (w := X.w) (elsOf ks) (I.ok.hd hc) pl.isList its' (fun p hp => ?_) (by unfold elsOf; rw [List.length_map]; exact hf) (by omega) fun h' tk L es ep t R g k => ?_
  · obtain ⟨p', hp', rfl⟩ := List.mem_map.mp hp
    obtain ⟨h1, h2, h3⟩ := hk p' hp'
    exact el_of I h1 h2 h3
  · obtain ⟨L', e, m⟩ := els_back (ks := ks) (L := L) fun p hp => List.mem_of_mem_take (g.subm p hp)
    subst e
    have nd : (L'.map (·.2)).Nodup := by rw [← els_snd]; exact R.nd
    refine ⟨.ref s.heap.objs.size, upd H s.heap.objs.size (SetDO X.prog X.w s.heap.objs.size L'), I.laid (t' := tk) k (Nat.le_refl _) (setDO_new ⟨es, ep, t, R.ob, R.rows, R.tab, R.nd, R.led, R.room, R.few⟩), rfl, q _ L' hn m (fun p hp => ?_) nd⟩
    have z := g.all (Value.ref p.1, p.2) (by rw [List.take_length]; exact List.mem_map.mpr ⟨p, hp, rfl⟩)
    rw [els_snd] at z
    exact z
def rSortedD (K : PySem.W.Frag) (P : Program) (w : World) : List V → Hp → VK → Prop := fun vs H Q => ∃ (a : Addr) (L : Ks) (hi : Bool), vs = [V.ref a] ∧ H a = some (SetDO P w a L) ∧ (∀ p ∈ L, Dl.Da K H (.ref p.1) p.2 ∧ keyD p.2 = true ∧ p.2.depth ≤ 8) ∧ (∀ p ∈ L, headOk hi p.2) ∧
  (∀ p ∈ L, ∀ q ∈ L, like p.2 q.2 = true) ∧ ∀ (L' : Ks) (p : Addr), L'.Perm L → L'.Pairwise (fun q r => ¬ enc r.2 < enc q.2) → H p = none → Q (.ref p) (upd H p (.lst (L'.map fun q => V.ref q.1)))
theorem cr_sortedD (hc : X.calm = true) (hu : X.A.units + 64 < cLine) : CallR X (.builtin "sorted") (rSortedD X.K X.prog X.w) := by
  intro pins s σ H vs us Q I r h
  obtain ⟨a, L, hi, rfl, ha, hk, hd, lk, q⟩ := h
  have R0 : SetD0 X.prog X.w s.heap a L := (I.hok a _ ha).1
  obtain ⟨es, ep, t, h1, h2, h3, h4, h6, h7, h8⟩ := R0.ex
  have mem : ∀ p ∈ elsOf L, ∃ p' ∈ L, p = (Value.ref p'.1, p'.2) := fun p hp => by
    obtain ⟨p', hp', e⟩ := List.mem_map.mp hp
    exact ⟨p', hp', e.symm⟩
  have R : SetD X.prog X.w s.heap a (elsOf L) es ep t := ⟨h1, h2, h3, h4, fun p hp => by
    obtain ⟨p', hp', rfl⟩ := mem p hp
    obtain ⟨k1, k2, k3⟩ := hk p' hp'
    exact el_of I k1 k2 k3, h6, h7, h8⟩
  rw [Vals.ref1 r]
  refine sorted_set R (I.ok.hd hc) (by omega) (hi := hi) (fun p hp => ?_) (fun p hp q' hq => ?_) fun s' p out c L1 k g o hp hg hout pm pw => ?_
  · obtain ⟨p', hp', rfl⟩ := mem p hp
    exact hd p' hp'
  · obtain ⟨p', hp', rfl⟩ := mem p hp
    obtain ⟨q'', hq', rfl⟩ := mem q' hq
    exact lk p' hp' q'' hq'
  obtain ⟨L', e, m⟩ := els_back (ks := L) (L := L1) fun q hq => pm.mem_iff.mp hq
  subst e
  have len : (elsOf L').length = L'.length := by unfold elsOf; rw [List.length_map]
  have few : L'.length < 64 := by rw [← len, pm.length_eq]; exact h8
  have hlen : (L'.map fun q => V.ref q.1).length ≤ sizeLine := by rw [List.length_map, sizeLine_eq]; omega
  have hn : H p = none := I.hok.fresh hp
  have hv : Vals (L'.map fun q => V.ref q.1) out.toList := by
    rw [hout]
    have e2 : (elsOf L').map (·.1) = L'.map fun q => Value.ref q.1 := by
      unfold elsOf
      rw [List.map_map]
      rfl
    rw [e2]
    exact vals_are L'
  have J : Inv X pins σ (upd H p (.lst (L'.map fun q => V.ref q.1))) { s with heap := s'.heap, gens := s'.gens, drawn := s'.drawn, toks := s'.toks } :=
    I.call (ch := []) (Un.laid k hp hn) (I.hok.laid k hp ⟨hlen, out.toList, c, hv, hg⟩) (by rw [g]; exact I.bare) (fun _ z => nomatch z)
  have e : s' = { s with heap := s'.heap, gens := s'.gens, drawn := s'.drawn, toks := s'.toks } := by
    cases s'
    cases s
    cases o
    rfl
  rw [e]
  have nd' : (L'.map (·.2)).Nodup := by
    have := (pm.map (·.2)).nodup_iff.mpr R.nd
    rwa [els_snd] at this
  have ndL : (L.map (·.2)).Nodup := by
    have := R.nd
    rwa [els_snd] at this
  have pm2 : L'.Perm L := (List.perm_ext_iff_of_nodup (nodup_map nd') (nodup_map ndL)).mpr fun x => ⟨m x, fun hx => by
    have z : (Value.ref x.1, x.2) ∈ elsOf L' := pm.mem_iff.mpr (List.mem_map.mpr ⟨x, hx, rfl⟩)
    obtain ⟨y, hy, e3⟩ := List.mem_map.mp z
    have e4 : y = x := by
      injection e3 with e5 e6
      injection e5 with e5
      exact Prod.ext e5 e6
    rw [← e4]
    exact hy⟩
  have pw2 : L'.Pairwise (fun q r => ¬ enc r.2 < enc q.2) := by
    unfold elsOf at pw
    exact List.pairwise_map.mp pw
  exact ⟨.ref p, _, J, rfl, q L' p pm2 pw2 hn⟩
end
end Sd

set_option maxRecDepth 100000
set_option maxHeartbeats 4000000
/-! sorted(set(..)) and less, by data -/
namespace Sd
open PySem PySem.Spec PyProof.Rows L2 Gd Dl
open Evl (Ex Ex.refl Ex.trans Ex.new ex_l ex_t sq_of st_of fresh_back)
/-- data that are fit for a set which is sorted -/
structure Fit (hi : Bool) (ds : List PyData) : Prop where
  key : ∀ d ∈ ds, keyD d = true
  dep : ∀ d ∈ ds, d.depth ≤ 8
  head : ∀ d ∈ ds, headOk hi d
  lk : ∀ d ∈ ds, ∀ e ∈ ds, like d e = true
  few : ds.length < 64
section
variable {K : PySem.W.Frag} {π : Option Pn} {σ : L2.St} {H0 H : Hp} {te ta tb : TE} {P : Program} {w : World}
theorem ks_of : ∀ {ds : List PyData} {vs : List V}, DaAll K H vs ds → (∀ d ∈ ds, ∃ es, d = .tuple es) → ∃ ks : Ks, vs = ks.map (fun p => V.ref p.1) ∧ ds = ks.map (·.2) ∧ ∀ p ∈ ks, Da K H (.ref p.1) p.2
  | [], _, h, _ => by
    cases h
    exact ⟨[], rfl, rfl, fun p hp => by cases hp⟩
  | d :: ds, _, .cons h1 h2, k => by
    obtain ⟨es, rfl⟩ := k _ List.mem_cons_self
    obtain ⟨a, xs, rfl, hs, hd⟩ := dp_tup h1
    obtain ⟨ks, e1, e2, m⟩ := ks_of h2 fun x hx => k x (List.mem_cons_of_mem _ hx)
    refine ⟨(a, .tuple es) :: ks, by rw [List.map_cons, e1], by rw [List.map_cons, e2], fun p hp => ?_⟩
    rcases List.mem_cons.mp hp with z | z
    · rw [z]
      exact .tup hs hd
    · exact m p z
theorem das_of : ∀ {ks : Ks}, (∀ p ∈ ks, Da K H (.ref p.1) p.2) → DaAll K H (ks.map fun p => V.ref p.1) (ks.map (·.2))
  | [], _ => .nil
  | p :: ks, h => .cons (h p List.mem_cons_self) (das_of fun q hq => h q (List.mem_cons_of_mem _ hq))
/-- a strictly ascending row with the members of another one -/
structure SortOf (ds es : List PyData) : Prop where
  up : es.Pairwise (fun d e => enc d < enc e)
  mem : ∀ x, x ∈ es ↔ x ∈ ds
theorem ed_sortset {hi : Bool} {Φl : List PyData → Prop} (h : EvD K π te σ H0 (fun d => ∃ ds, d = .list ds ∧ Φl ds ∧ Fit hi ds)) :
    EvD K π (tCB (rSortedD K P w) (tCons (tCB (rSetD K P w) (tCons te tNil)) tNil)) σ H0 (fun d => ∃ ds es, d = .list es ∧ Φl ds ∧ SortOf ds es) := fun H1 o Q q => h H1 o _ fun v d N H2 hd s kv => by
  obtain ⟨ds, rfl, hphi, fit⟩ := hd
  obtain ⟨l, xs, rfl, hl, hall⟩ := dp_lst kv
  obtain ⟨ks, rfl, e2, m⟩ := ks_of hall fun d hd => by
    obtain ⟨f, r, e, _⟩ := fit.head d hd
    exact ⟨_, e⟩
  have o2 := s.okk o
  have inds : ∀ p ∈ ks, p.2 ∈ ds := fun p hp => by rw [e2]; exact List.mem_map.mpr ⟨p, hp, rfl⟩
  refine ⟨l, ks, rfl, ex_l o2.ex hl, fun p hp => ⟨dp_ex o2.ex (m p hp), fit.key _ (inds p hp), fit.dep _ (inds p hp)⟩, by rw [← List.length_map (as := ks) (fun p : Addr × PyData => p.2), ← e2]; exact fit.few, fun a L ha sub all nd => ?_⟩
  have eS : Ex H2 (upd H2 a (SetDO P w a L)) := Ex.new ha
  have s3 : Stp K π N H2 N (upd H2 a (SetDO P w a L)) := o2.more eS
  have o3 := s3.okk o2
  refine ⟨a, L, hi, rfl, upd_same, fun p hp => ⟨dp_ex (o2.ex.trans eS) (m p (sub p hp)), fit.key _ (inds p (sub p hp)), fit.dep _ (inds p (sub p hp))⟩, fun p hp => fit.head _ (inds p (sub p hp)), fun p hp q hq => fit.lk _ (inds p (sub p hp)) _ (inds q (sub q hq)), fun L' p pm pw hp => ?_⟩
  have s4 := o3.new hp (Ex.new hp) (upd_same (o := .lst (L'.map fun q => V.ref q.1)))
  have nd' : (L'.map (·.2)).Nodup := (pm.map (·.2)).nodup_iff.mpr nd
  refine q _ (.list (L'.map (·.2))) _ _ ⟨ds, L'.map (·.2), rfl, hphi, ?_, fun x => ?_⟩ ((s.trans s3 o).trans s4 o) (.lst (sq_of upd_same) (das_of fun q hq => dp_ex s4.ex (m q (sub q (pm.mem_iff.mp hq)))))
  · refine List.pairwise_map.mpr (List.Pairwise.imp_of_mem (fun {x y} hx hy z => ?_) (List.Pairwise.and pw (List.pairwise_map.mp nd')))
    rcases enc_tri (fit.lk _ (inds x (sub x (pm.mem_iff.mp hx))) _ (inds y (sub y (pm.mem_iff.mp hy)))) with e | e | e
    · exact absurd e z.2
    · exact e
    · exact absurd e z.1
  · constructor
    · intro hx
      obtain ⟨y, hy, rfl⟩ := List.mem_map.mp hx
      exact inds y (sub y (pm.mem_iff.mp hy))
    · intro hx
      rw [e2] at hx
      obtain ⟨y, hy, rfl⟩ := List.mem_map.mp hx
      obtain ⟨z, hz, e⟩ := List.mem_map.mp (all y hy)
      rw [← e]
      exact List.mem_map.mpr ⟨z, pm.mem_iff.mpr hz, rfl⟩
/-- less -/
def rLtD (K : PySem.W.Frag) : R2 := fun x y H Q => ∃ d e, L2.Dp K H x d ∧ L2.Dp K H y e ∧ keyD d = true ∧ keyD e = true ∧ like d e = true ∧ d.depth ≤ 60 ∧ Q (.bl (decide (enc d < enc e))) H
theorem op_ltD {X : Cx} (hu : X.A.units + 64 < cLine) : OpR X (compareOp .Lt) (rLtD X.K) := by
  intro pins s σ H x y v u Q I rx ry h
  obtain ⟨d, e, hd, he, kd, ke, lk, dp, q⟩ := h
  obtain ⟨as, r1⟩ := L2.Dp.reads I d x v hd rx
  obtain ⟨bs, r2⟩ := L2.Dp.reads I e y u he ry
  exact lt_ok _ d e (Nat.le_refl _) lk kd ke X.A s v u as bs r1 r2 (by omega) X.prog X.w _ _ ⟨.bl _, H, I, rfl, q⟩
theorem od_ltD {d e : PyData} (kd : keyD d = true) (ke : keyD e = true) (lk : like d e = true) (dp : d.depth ≤ 60) : OpD K π (rLtD K) d e (· = .bool (decide (enc d < enc e))) :=
  opd_val (v := .bl (decide (enc d < enc e))) (fun _ => .bl _) fun x y H Q hx hy q => ⟨d, e, da_plain hx (noDict_lay _ (keyD_lay _ kd)), da_plain hy (noDict_lay _ (keyD_lay _ ke)), kd, ke, lk, dp, q⟩
end
end Sd

set_option maxRecDepth 100000
set_option maxHeartbeats 4000000
/-! a def's meaning as a function of data: the runs, the frames, what a reading says of them -/
namespace Rf
open PySem PySem.Spec PyProof.Rows L2 Gd Dt Dl Ee
open Evl (Ex Ex.refl Ex.trans Ex.new ex_l ex_t sq_of st_of fresh_back)

/-! ### runs -/
/-- the pen's seat, and what is left in it -/
abbrev Ps := Int × Int
inductive Rn (α : Type) where
  | ok (a : α) (s : Ps)
  | exc (c : Str) (ds : List (Str × PyData)) (s : Ps)
  | bad
abbrev Mo (α : Type) := Ps → Rn α
namespace Mo
variable {α β : Type}
def pure (a : α) : Mo α := fun s => .ok a s
def bind (x : Mo α) (f : α → Mo β) : Mo β := fun s => match x s with
  | .ok a s' => f a s'
  | .exc c ds s' => .exc c ds s'
  | .bad => .bad
def bad : Mo α := fun _ => .bad
def of (o : Option α) : Mo α := fun s => match o with
  | some a => .ok a s
  | none => .bad
def raise (c : Str) (ds : List (Str × PyData)) : Mo α := fun s => .exc c ds s
end Mo
/-- what a slot of a frame holds -/
inductive Sl where
  | no
  | d (x : PyData)
  | own (xs : List PyData)
  | pen (ns : List Int)
  | exc (c : Str) (ds : List (Str × PyData))
abbrev Fm := List Sl
inductive Arg where
  | d (x : PyData)
  | pen (ns : List Int)
inductive Out where
  | nx (f : Fm)
  | rt (d : PyData)
  | bk (f : Fm)
  | ct (f : Fm)

/-! ### heaps -/
structure Pen where
  p : Addr
  g : Addr
  ns : List Int
def penO (q : Pen) (s : Ps) : HO := .lst [.ref q.g, .int s.1, .int s.2]
structure Ok (K : PySem.W.Frag) (π : Option Pen) (s : Ps) (M H : Hp) : Prop where
  ex : Ex M H
  pen : ∀ q, π = some q → M q.p = none ∧ H q.p = some (penO q s) ∧ Da K M (.ref q.g) (.list (q.ns.map .int))
def Offp (π : Option Pen) (H1 H2 : Hp) : Prop := ∀ a o, (∀ q, π = some q → a ≠ q.p) → H1 a = some o → H2 a = some o
structure Step (π : Option Pen) (s : Ps) (M H M' H' : Hp) : Prop where
  ex : Ex M M'
  gr : ∀ a, M' a ≠ none → M a ≠ none ∨ H a = none
  ex2 : Ex M' H'
  off : Offp π H H'
  pen : ∀ q, π = some q → H' q.p = some (penO q s)
section
variable {K : PySem.W.Frag} {π : Option Pen} {s s1 s2 : Ps} {M H M1 H1 M2 H2 : Hp}
theorem Offp.of (e : Ex H H1) : Offp π H H1 := fun a o _ h => e a o h
theorem Offp.trans (a : Offp π H H1) (b : Offp π H1 H2) : Offp π H H2 := fun x o n h => b x o n (a x o n h)
theorem Ok.step (o : Ok K π s M H) : Step π s M H M H := ⟨Ex.refl _, fun a h => .inl h, o.ex, fun _ _ _ h => h, fun q e => (o.pen q e).2.1⟩
theorem Step.ok (t : Step π s1 M H M1 H1) (o : Ok K π s M H) : Ok K π s1 M1 H1 := by
  refine ⟨t.ex2, fun q e => ⟨?_, t.pen q e, dp_ex t.ex (o.pen q e).2.2⟩⟩
  obtain ⟨h1, h2, _⟩ := o.pen q e
  apply Classical.byContradiction
  intro hn
  rcases t.gr q.p hn with z | z
  · exact z h1
  · rw [h2] at z
    cases z
theorem Step.out (t : Step π s1 M H M1 H1) {a : Addr} (h0 : M a = none) (h1 : H a ≠ none) : M1 a = none := by
  apply Classical.byContradiction
  intro hn
  rcases t.gr a hn with z | z
  · exact z h0
  · exact h1 z
theorem Step.trans (a : Step π s1 M H M1 H1) (b : Step π s2 M1 H1 M2 H2) (o : Ok K π s M H) : Step π s2 M H M2 H2 := by
  refine ⟨a.ex.trans b.ex, fun x h => ?_, b.ex2, a.off.trans b.off, b.pen⟩
  rcases b.gr x h with z | z
  · exact a.gr x z
  · cases e : H x with
    | none => exact .inr rfl
    | some ob =>
      by_cases hp : ∃ q, π = some q ∧ x = q.p
      · obtain ⟨q, hq, rfl⟩ := hp
        rw [a.pen q hq] at z
        cases z
      · rw [a.off x ob (fun q hq ex => hp ⟨q, hq, ex⟩) e] at z
        cases z
theorem Ok.none (o : Ok K π s M H) : Okk K none M H := ⟨o.ex, fun q e => by cases e⟩
theorem Step.of_none (o : Ok K π s M H) (t : Stp K none M H M1 H1) : Step π s M H M1 H1 :=
  have e : Ex H H1 := fun a u h => t.off a u (fun q z => by cases z) h
  ⟨t.ex, t.gr, t.ex2, Offp.of e, fun q z => e _ _ (o.pen q z).2.1⟩
/-- a new object joins the core -/
theorem Ok.new (o : Ok K π s M H) {p : Addr} {ob : HO} (hp : H p = .none) : Step π s M H (upd M p ob) (upd H p ob) :=
  Step.of_none o (o.none.new hp (Ex.new hp) upd_same)
/-- a new object does not join the core -/
theorem Ok.more (o : Ok K π s M H) (e : Ex H H1) : Step π s M H M H1 := Step.of_none o (o.none.more e)

/-! ### frames -/
def SlOk (K : PySem.W.Frag) (π : Option Pen) (S1 M H : Hp) (o : Option V) : Sl → Prop
  | .no => True
  | .d x => ∃ v, o = some v ∧ Da K M v x
  | .own xs => ∃ l vs, o = some (.ref l) ∧ H l = some (.lst vs) ∧ DaAll K M vs xs ∧ M l = none ∧ S1 l = none ∧ ∀ q, π = some q → l ≠ q.p
  | .pen ns => ∃ q, π = some q ∧ o = some (.ref q.p) ∧ q.ns = ns
  | .exc _ _ => True
structure FmOk (K : PySem.W.Frag) (π : Option Pen) (S1 : Hp) (σ : L2.St) (M H : Hp) (fm : Fm) : Prop where
  len : fm.length ≤ σ.length
  at_ : ∀ (i : Nat) (x : Sl), fm[i]? = some x → ∃ o, σ[i]? = some o ∧ SlOk K π S1 M H o x
  apart : ∀ (i j : Nat) (xs ys : List PyData) (l : Addr), fm[i]? = some (.own xs) → fm[j]? = some (.own ys) → σ[i]? = some (some (.ref l)) → σ[j]? = some (some (.ref l)) → i = j
theorem SlOk.step {S1 : Hp} {o : Option V} {x : Sl} (h : SlOk K π S1 M H o x) (t : Step π s1 M H M1 H1) : SlOk K π S1 M1 H1 o x := by
  cases x with
  | no => trivial
  | d x =>
    obtain ⟨v, e, hv⟩ := h
    exact ⟨v, e, dp_ex t.ex hv⟩
  | own xs =>
    obtain ⟨l, vs, e, h1, h2, h3, h4, h5⟩ := h
    exact ⟨l, vs, e, t.off _ _ h5 h1, dps_ex t.ex h2, t.out h3 (by rw [h1]; exact fun z => by cases z), h4, h5⟩
  | pen ns => exact h
  | exc _ _ => trivial
theorem FmOk.step {S1 : Hp} {σ : L2.St} {fm : Fm} (h : FmOk K π S1 σ M H fm) (t : Step π s1 M H M1 H1) : FmOk K π S1 σ M1 H1 fm :=
  ⟨h.len, fun i x e => by
    obtain ⟨o, h1, h2⟩ := h.at_ i x e
    exact ⟨o, h1, h2.step t⟩, h.apart⟩
/-- a slot gets a value -/
theorem FmOk.set {S1 : Hp} {σ : L2.St} {fm : Fm} (h : FmOk K π S1 σ M H fm) {i : Nat} {v : V} {x : PyData} (hv : Da K M v x) : FmOk K π S1 (σ.set i (some v)) M H (fm.set i (.d x)) := by
  refine ⟨by rw [List.length_set, List.length_set]; exact h.len, fun j y e => ?_, fun j k xs ys l h1 h2 h3 h4 => ?_⟩
  · by_cases hj : i = j
    · subst hj
      have hl : i < fm.length := by
        have := (List.getElem?_eq_some_iff.mp e).1
        rw [List.length_set] at this
        exact this
      rw [List.getElem?_set_self hl] at e
      cases e
      exact ⟨some v, List.getElem?_set_self (Nat.lt_of_lt_of_le hl h.len), v, rfl, hv⟩
    · rw [List.getElem?_set_ne hj] at e ⊢
      exact h.at_ j y e
  · have hj : i ≠ j := fun z => by
      subst z
      have hl : i < fm.length := by
        have := (List.getElem?_eq_some_iff.mp h1).1
        rw [List.length_set] at this
        exact this
      rw [List.getElem?_set_self hl] at h1
      cases h1
    have hk : i ≠ k := fun z => by
      subst z
      have hl : i < fm.length := by
        have := (List.getElem?_eq_some_iff.mp h2).1
        rw [List.length_set] at this
        exact this
      rw [List.getElem?_set_self hl] at h2
      cases h2
    rw [List.getElem?_set_ne hj] at h1 h3
    rw [List.getElem?_set_ne hk] at h2 h4
    exact h.apart j k xs ys l h1 h2 h3 h4
end

/-! ### what is wished of a run -/
/-- how an error that flies lies in the heap -/
def ExRep (mg : Str → Option Value) (K : PySem.W.Frag) (c : Str) (ds : List (Str × PyData)) (cls : Value) (dd : Option Addr) (M H : Hp) : Prop :=
  ∃ C : Addr, cls = .ref C ∧ mg c = some (.ref C) ∧ ((ds = [] ∧ dd = none) ∨ ∃ (dx : Addr) (vs : List V), dd = some dx ∧ H dx = some (.xd ((ds.map (·.1)).zip vs)) ∧ DaAll K M vs (ds.map (·.2)))
def Fin (X : Cx) (π : Option Pen) (W : WX) (σ : L2.St) (M H : Hp) {α : Type} (k : α → Ps → Hp → Hp → Prop) : Rn α → Prop
  | .ok a s' => ∀ M' H', Step π s' M H M' H' → k a s' M' H'
  | .exc c ds s' => ∀ cls dd M' H', Step π s' M H M' H' → ExRep X.mg X.K c ds cls dd M' H' → W cls dd σ H'
  | .bad => False
section
variable {X : Cx} {π : Option Pen} {W : WX} {σ : L2.St} {M H : Hp} {α β : Type} {s : Ps}
theorem fin_bind {x : Mo α} {f : α → Mo β} {k : β → Ps → Hp → Hp → Prop} (o : Ok X.K π s M H) (h : Fin X π W σ M H k (x.bind f s)) : Fin X π W σ M H (fun a s' M' H' => Fin X π W σ M' H' k (f a s')) (x s) := by
  unfold Mo.bind at h
  cases e : x s with
  | ok a s1 =>
    rw [e] at h
    intro M1 H1 t
    cases e2 : f a s1 with
    | ok b s2 =>
      simp only [e2] at h
      exact fun M2 H2 t2 => h M2 H2 (t.trans t2 o)
    | exc c ds s2 =>
      simp only [e2] at h
      exact fun cls dd M2 H2 t2 r => h cls dd M2 H2 (t.trans t2 o) r
    | bad =>
      simp only [e2] at h
      exact h
  | exc c ds s1 =>
    rw [e] at h
    exact h
  | bad =>
    rw [e] at h
    exact h
theorem Fin.mono {k k' : α → Ps → Hp → Hp → Prop} {r : Rn α} (h : Fin X π W σ M H k r) (hk : ∀ a s' M' H', Step π s' M H M' H' → k a s' M' H' → k' a s' M' H') : Fin X π W σ M H k' r := by
  cases r with
  | ok a s1 => exact fun M' H' t => hk _ _ _ _ t (h M' H' t)
  | exc c ds s1 => exact h
  | bad => exact h
theorem fin_ok {a : α} {k : α → Ps → Hp → Hp → Prop} (o : Ok X.K π s M H) (h : Fin X π W σ M H k (.ok a s)) : k a s M H := h M H o.step
/-- a later start -/
theorem Fin.later {s' : Ps} {M' H' : Hp} {k : α → Ps → Hp → Hp → Prop} {r : Rn α} (o : Ok X.K π s M H) (t : Step π s' M H M' H') (h : Fin X π W σ M H k r) : Fin X π W σ M' H' k r := by
  cases r with
  | ok a s1 => exact fun M2 H2 t2 => h M2 H2 (t.trans t2 o)
  | exc c ds s1 => exact fun cls dd M2 H2 t2 r => h cls dd M2 H2 (t.trans t2 o) r
  | bad => exact h
end

/-! ### readings at their widest -/
def eMax (X : Cx) (e : Expr) : TE := fun σ H Q => ∀ pins s, Inv X pins σ H s → wpAny (model X.prog X.w) X.A (eval e X.env) (EP X pins σ Q) X.xe s
theorem peMax {X : Cx} (e : Expr) : PE X e (eMax X e) := ⟨fun pins s σ H Q I h => h pins s I⟩
theorem of_pe {X : Cx} {e : Expr} {te : TE} (h : PE X e te) {σ : L2.St} {H : Hp} {Q : VK} (k : te σ H Q) : eMax X e σ H Q := fun pins s I => h.run pins s σ H Q I k
def tMax (X : Cx) (e : Expr) : TT := fun σ H Q => ∀ pins s, Inv X pins σ H s → wpAny (model X.prog X.w) X.A (isTrue e X.env (eval e X.env)) (TP X pins σ Q) X.xe s
theorem ptMax {X : Cx} (e : Expr) : PT X e (tMax X e) := ⟨fun pins s σ H Q I h => h pins s I⟩
theorem of_pt {X : Cx} {e : Expr} {te : TT} (h : PT X e te) {σ : L2.St} {H : Hp} {Q : Bool → Hp → Prop} (k : te σ H Q) : tMax X e σ H Q := fun pins s I => h.run pins s σ H Q I k
def wMax (X : Cx) (e : Expr) : TT := fun σ H Q => ∀ whole pins s, Inv X pins σ H s → wpAny (model X.prog X.w) X.A (isTrue e X.env whole) (TP X pins σ Q) X.xe s
theorem pwMax {X : Cx} (e : Expr) : PW X e (wMax X e) := ⟨fun whole pins s σ H Q I h => h whole pins s I⟩
theorem of_pw {X : Cx} {e : Expr} {te : TT} (h : PW X e te) {σ : L2.St} {H : Hp} {Q : Bool → Hp → Prop} (k : te σ H Q) : wMax X e σ H Q := fun whole pins s I => h.run whole pins s σ H Q I k
def aMax (X : Cx) (es : List Expr) : TA := fun σ H Q => ∀ pos pins s, Inv X pins σ H s → wpAny (model X.prog X.w) X.A (spliced (backTo pos (starEach es X.env))) (AP X pins σ Q) X.xe s
theorem paMax {X : Cx} (e : List Expr) : PA X e (aMax X e) := ⟨fun pos pins s σ H Q I h => h pos pins s I⟩
theorem of_pa {X : Cx} {e : List Expr} {te : TA} (h : PA X e te) {σ : L2.St} {H : Hp} {Q : List V → Hp → Prop} (k : te σ H Q) : aMax X e σ H Q := fun pos pins s I => h.run pos pins s σ H Q I k
def sMax (X : Cx) (st : Stmt) : TS := fun D σ H => ∀ pins s, Inv X pins σ H s → wpAny (model X.prog X.w) X.A (exec st X.env) (SP X pins D) X.xe s
theorem psMax {X : Cx} (e : Stmt) : PS X e (sMax X e) := ⟨fun pins s σ H Q I h => h pins s I⟩
theorem of_ps {X : Cx} {e : Stmt} {te : TS} (h : PS X e te) {σ : L2.St} {H : Hp} {D : Ends} (k : te D σ H) : sMax X e D σ H := fun pins s I => h.run pins s σ H D I k
def ssMax (X : Cx) (st : List Stmt) : TS := fun D σ H => ∀ pins s, Inv X pins σ H s → wpAny (model X.prog X.w) X.A (execs st X.env) (SP X pins D) X.xe s
theorem pssMax {X : Cx} (e : List Stmt) : PSs X e (ssMax X e) := ⟨fun pins s σ H Q I h => h pins s I⟩
theorem of_pss {X : Cx} {e : List Stmt} {te : TS} (h : PSs X e te) {σ : L2.St} {H : Hp} {D : Ends} (k : te D σ H) : ssMax X e D σ H := fun pins s I => h.run pins s σ H D I k

/-! ### what is said of an expression -/
abbrev DE := Fm → Mo PyData
abbrev DT := Fm → Mo Bool
abbrev DL := Fm → Mo (List PyData)
abbrev DA := Fm → Mo (List Arg)
def ArgOk (K : PySem.W.Frag) (π : Option Pen) (M : Hp) (v : V) : Arg → Prop
  | .d x => Da K M v x
  | .pen ns => ∃ q, π = some q ∧ v = .ref q.p ∧ q.ns = ns
inductive ArgsOk (K : PySem.W.Frag) (π : Option Pen) (M : Hp) : List V → List Arg → Prop
  | nil : ArgsOk K π M [] []
  | cons {v : V} {vs : List V} {a : Arg} {as : List Arg} (h : ArgOk K π M v a) (t : ArgsOk K π M vs as) : ArgsOk K π M (v :: vs) (a :: as)
structure Cnt (X : Cx) (π : Option Pen) (W : WX) (S1 : Hp) (σ : L2.St) (M H : Hp) (fm : Fm) (s : Ps) : Prop where
  tk : Takes X W
  ok : Ok X.K π s M H
  fm : FmOk X.K π S1 σ M H fm
def RE (X : Cx) (e : Expr) (d : DE) : Prop := ∀ (π : Option Pen) (W : WX) (S1 : Hp) (σ : L2.St) (M H : Hp) (fm : Fm) (s : Ps) (Q : VK), Cnt X π W S1 σ M H fm s →
  Fin X π W σ M H (fun x _ M' H' => ∀ v, Da X.K M' v x → Q v H') (d fm s) → eMax X e σ H Q
def RT (X : Cx) (e : Expr) (d : DT) : Prop := ∀ (π : Option Pen) (W : WX) (S1 : Hp) (σ : L2.St) (M H : Hp) (fm : Fm) (s : Ps) (Q : Bool → Hp → Prop), Cnt X π W S1 σ M H fm s →
  Fin X π W σ M H (fun x _ _ H' => Q x H') (d fm s) → tMax X e σ H Q
def RW (X : Cx) (e : Expr) (d : DT) : Prop := ∀ (π : Option Pen) (W : WX) (S1 : Hp) (σ : L2.St) (M H : Hp) (fm : Fm) (s : Ps) (Q : Bool → Hp → Prop), Cnt X π W S1 σ M H fm s →
  Fin X π W σ M H (fun x _ _ H' => Q x H') (d fm s) → wMax X e σ H Q
def RL (X : Cx) (es : List Expr) (d : DL) : Prop := ∀ (π : Option Pen) (W : WX) (S1 : Hp) (σ : L2.St) (M H : Hp) (fm : Fm) (s : Ps) (Q : List V → Hp → Prop), Cnt X π W S1 σ M H fm s →
  Fin X π W σ M H (fun x _ M' H' => ∀ vs, DaAll X.K M' vs x → Q vs H') (d fm s) → aMax X es σ H Q
def RA (X : Cx) (es : List Expr) (d : DA) : Prop := ∀ (π : Option Pen) (W : WX) (S1 : Hp) (σ : L2.St) (M H : Hp) (fm : Fm) (s : Ps) (Q : List V → Hp → Prop), Cnt X π W S1 σ M H fm s →
  Fin X π W σ M H (fun x _ M' H' => ∀ vs, ArgsOk X.K π M' vs x → Q vs H') (d fm s) → aMax X es σ H Q
section
variable {X : Cx} {π : Option Pen} {W : WX} {S1 : Hp} {σ : L2.St} {M H M' H' : Hp} {fm : Fm} {s s' : Ps}
theorem Cnt.step (c : Cnt X π W S1 σ M H fm s) (t : Step π s' M H M' H') : Cnt X π W S1 σ M' H' fm s' := ⟨c.tk, t.ok c.ok, c.fm.step t⟩
end
end Rf

set_option maxRecDepth 100000
set_option maxHeartbeats 4000000
namespace Rf
open PySem PySem.Spec PyProof.Rows L2 Gd Dt Dl Ee
open Evl (Ex Ex.refl Ex.trans Ex.new ex_l ex_t sq_of st_of fresh_back)
variable {X : Cx} {pos : Pos}
/-! ### names, constants -/
def dC (d : PyData) : DE := fun _ => Mo.pure d
def slD : Option Sl → Option PyData
  | some (.d x) => some x
  | _ => none
def dV (i : Nat) : DE := fun fm => Mo.of (slD fm[i]?)
theorem Fin.ok_ {π : Option Pen} {W : WX} {σ : L2.St} {M H : Hp} {s : Ps} {α : Type} {a : α} {k : α → Ps → Hp → Hp → Prop} (h : Fin X π W σ M H k (Mo.pure a s)) (o : Ok X.K π s M H) : k a s M H := fin_ok o h
/-- a run that is told by an option -/
theorem fin_of {π : Option Pen} {W : WX} {σ : L2.St} {M H : Hp} {s : Ps} {α : Type} {x : Option α} {k : α → Ps → Hp → Hp → Prop} (h : Fin X π W σ M H k (Mo.of x s)) (o : Ok X.K π s M H) :
    ∃ a, x = some a ∧ ∀ M' H', Step π s M H M' H' → k a s M' H' := by
  cases x with
  | none => exact h.elim
  | some a => exact ⟨a, rfl, h⟩
theorem r_tC {e : Expr} {v : V} {d : PyData} (h : PE X e (tC v)) (hd : ∀ M, Da X.K M v d) : RE X e (dC d) := fun π W S1 σ M H fm s Q c k =>
  of_pe h (show Q v H from k.ok_ c.ok v (hd M))
theorem r_v (i : Nat) {x : Str} (hN : X.N[i]? = some x := by rfl) (hv : Vis X.env.scope x := by first | exact Or.inl rfl | exact Or.inr (Or.inl rfl) | exact Or.inr (Or.inr rfl)) (hd : (x == ("__debug__" : Str)) = false := by decide)
    (hcd : (x == ("__classdict__" : Str)) = false := by decide) : RE X (.Name x pos) (dV i) := fun π W S1 σ M H fm s Q c k => by
  obtain ⟨d, e, k⟩ := fin_of k c.ok
  refine of_pe (pe_var hN hv hd hcd) ?_
  cases e1 : fm[i]? with
  | none => rw [e1] at e; cases e
  | some sl =>
    rw [e1] at e
    cases sl with
    | d x =>
      cases e
      obtain ⟨o, e2, v, rfl, hv⟩ := c.fm.at_ i _ e1
      exact ⟨v, e2, k M H c.ok.step v hv⟩
    | _ => cases e
theorem r_int {i j} : RE X (.Constant (.int i) j pos) (dC (.int i)) := r_tC pe_int fun _ => .int i
theorem r_bl {b j} : RE X (.Constant (.bool b) j pos) (dC (.bool b)) := r_tC pe_bl fun _ => .bl b
theorem r_non {j} : RE X (.Constant .none j pos) (dC .none) := r_tC pe_non fun _ => .non
theorem r_str {x j} : RE X (.Constant (.str x) j pos) (dC (.str x)) := r_tC pe_str fun _ => .str x
/-- a module's number -/
theorem r_mod {x : Str} {i : Int} (hg : Gl X x) (h : ∃ u, X.mg x = some u ∧ RelV (.int i) u) (hd : (x == ("__debug__" : Str)) = false := by decide) : RE X (.Name x pos) (dC (.int i)) := by
  obtain ⟨u, h1, h2⟩ := h
  exact r_tC (pe_glob hg h1 h2 hd) fun _ => .int i

/-! ### rows of expressions -/
def dNil : DL := fun _ => Mo.pure []
def dCons (d : DE) (ds : DL) : DL := fun fm => (d fm).bind fun x => (ds fm).bind fun xs => Mo.pure (x :: xs)
theorem rl_nil : RL X [] dNil := fun π W S1 σ M H fm s Q c k => of_pa pa_nil (show Q [] H from k.ok_ c.ok [] .nil)
/-- not a starred one -/
def noStar : Expr → Bool
  | .Starred .. => false
  | _ => true
theorem star_no {e : Expr} {es : List Expr} {env : Env} (h : noStar e = true) : starEach (e :: es) env = (false, eval e env) :: starEach es env := by
  cases e <;> first | rfl | cases h
theorem rl_cons {e : Expr} {es : List Expr} {d : DE} {ds : DL} (ha : RE X e d) (hr : RL X es ds) (hs : noStar e = true := by rfl) : RL X (e :: es) (dCons d ds) := fun π W S1 σ M H fm s Q c k => by
  refine of_pa (pa_cons (peMax e) (paMax es) (star_no hs)) ?_
  refine ha π W S1 σ M H fm s _ c ((fin_bind c.ok k).mono fun x s' M' H' t k v hv => ?_)
  have c1 := c.step t
  refine hr π W S1 σ M' H' fm s' _ c1 ((fin_bind c1.ok k).mono fun xs s2 M2 H2 t2 k vs hvs => ?_)
  exact k.ok_ (c1.step t2).ok _ (.cons (dp_ex t2.ex hv) hvs)
def few {α : Type} (n : Nat) (xs : List PyData) (d : α) : Option α := if xs.length ≤ n then some d else none
def dTup (ds : DL) : DE := fun fm => (ds fm).bind fun xs => Mo.of (few 100000 xs (.tuple xs))
def dLst (ds : DL) : DE := fun fm => (ds fm).bind fun xs => Mo.of (few 100000 xs (.list xs))
theorem few_of {α : Type} {n : Nat} {xs : List PyData} {d e : α} (h : few n xs d = some e) : xs.length ≤ n ∧ e = d := by
  unfold few at h
  split at h
  · cases h
    exact ⟨by assumption, rfl⟩
  · cases h
theorem r_tup {es : List Expr} {ds : DL} {x1} (h : RL X es ds) : RE X (.Tuple es x1 pos) (dTup ds) := fun π W S1 σ M H fm s Q c k => by
  refine of_pe (pe_tup (paMax es)) ?_
  refine h π W S1 σ M H fm s _ c ((fin_bind c.ok k).mono fun xs s' M' H' t k vs hvs => ?_)
  have c1 := c.step t
  obtain ⟨d, e, k⟩ := fin_of k c1.ok
  obtain ⟨hl, rfl⟩ := few_of e
  refine ⟨Evl.sz_of (by rw [dps_len hvs]; exact hl), fun p hp => ?_⟩
  have t2 := c1.ok.new (ob := .tup vs) hp
  exact k _ _ t2 _ (.tup (st_of upd_same) (dps_ex t2.ex hvs))
theorem r_lst {es : List Expr} {ds : DL} (h : RL X es ds) : RE X (.List es pos) (dLst ds) := fun π W S1 σ M H fm s Q c k => by
  refine of_pe (pe_lst (paMax es)) ?_
  refine h π W S1 σ M H fm s _ c ((fin_bind c.ok k).mono fun xs s' M' H' t k vs hvs => ?_)
  have c1 := c.step t
  obtain ⟨d, e, k⟩ := fin_of k c1.ok
  obtain ⟨hl, rfl⟩ := few_of e
  refine ⟨Evl.sz_of (by rw [dps_len hvs]; exact hl), fun p hp => ?_⟩
  have t2 := c1.ok.new (ob := .lst vs) hp
  exact k _ _ t2 _ (.lst (sq_of upd_same) (dps_ex t2.ex hvs))

/-! ### operations on two values -/
abbrev G2 := PyData → PyData → Option PyData
def oMax (X : Cx) (f : Value → Value → Sem Value) : R2 := fun x y H Q => ∀ (pins : List (Addr × Obj)) (s : Shared) (σ : L2.St) (v u : Value), Inv X pins σ H s → RelV x v → RelV y u → wpAny (model X.prog X.w) X.A (f v u) (EP X pins σ Q) X.xe s
theorem op_max {f : Value → Value → Sem Value} : OpR X f (oMax X f) := fun pins s σ H x y v u Q I rx ry h => h pins s σ v u I rx ry
/-- what an operation makes of two data -/
def OpS (X : Cx) (f : Value → Value → Sem Value) (g : G2) : Prop := ∀ x y z, g x y = some z → ∃ r : R2, OpR X f r ∧ OpD X.K none r x y (· = z)
theorem OpS.at_ {f : Value → Value → Sem Value} {g : G2} (h : OpS X f g) {x y z : PyData} (e : g x y = some z) {π : Option Pen} {s : Ps} {M H : Hp} {v w : V} (o : Ok X.K π s M H) (hv : Da X.K M v x) (hw : Da X.K M w y) {Q : VK}
    (k : ∀ M' H', Step π s M H M' H' → ∀ u, Da X.K M' u z → Q u H') : oMax X f v w H Q := fun pins sh σ u1 u2 I r1 r2 => by
  obtain ⟨r, hr, hd⟩ := h x y z e
  exact hr pins sh σ H v w u1 u2 Q I r1 r2 (hd v w M H hv hw o.none Q fun u d N H2 ed t hu => by
    subst ed
    exact k N H2 (Step.of_none o t) u hu)
def dOp (g : G2) (a b : DE) : DE := fun fm => (a fm).bind fun x => (b fm).bind fun y => Mo.of (g x y)
theorem op_run {f : Value → Value → Sem Value} {g : G2} (ho : OpS X f g) {a b : Expr} {da db : DE} (ha : RE X a da) (hb : RE X b db) {π : Option Pen} {W : WX} {S1 : Hp} {σ : L2.St} {M H : Hp} {fm : Fm} {s : Ps} {Q : VK} (c : Cnt X π W S1 σ M H fm s)
    (k : Fin X π W σ M H (fun x _ M' H' => ∀ v, Da X.K M' v x → Q v H') (dOp g da db fm s)) : tOp (oMax X f) (eMax X a) (eMax X b) σ H Q := by
  refine ha π W S1 σ M H fm s _ c ((fin_bind c.ok k).mono fun x s' M' H' t k v hv => ?_)
  have c1 := c.step t
  refine hb π W S1 σ M' H' fm s' _ c1 ((fin_bind c1.ok k).mono fun y s2 M2 H2 t2 k w hw => ?_)
  obtain ⟨z, e, k⟩ := fin_of k (c1.step t2).ok
  exact ho.at_ e (c1.step t2).ok (dp_ex t2.ex hv) hw fun M3 H3 t3 u hu => k M3 H3 t3 u hu
theorem r_bin {op : Operator} {g : G2} {a b : Expr} {da db : DE} (ho : OpS X (binaryOp op) g) (ha : RE X a da) (hb : RE X b db) : RE X (.BinOp a op b pos) (dOp g da db) := fun π W S1 σ M H fm s Q c k =>
  of_pe (pe_op op_max (peMax a) (peMax b)) (op_run ho ha hb c k)
theorem r_cmp {op : CmpOp} {g : G2} {a b : Expr} {da db : DE} (ho : OpS X (compareOp op) g) (ha : RE X a da) (hb : RE X b db) (hm : behindInMarks op b = false) : RE X (.Compare a [op] [b] pos) (dOp g da db) := fun π W S1 σ M H fm s Q c k =>
  of_pe (pe_cmpR op_max (peMax a) (peMax b) hm) (op_run ho ha hb c k)
/-! ### tests -/
def asB : PyData → Option Bool
  | .bool b => some b
  | _ => none
def dB (d : DE) : DT := fun fm => (d fm).bind fun x => Mo.of (asB x)
theorem asB_of {x : PyData} {b : Bool} (h : asB x = some b) : x = .bool b := by
  cases x <;> first | cases h; rfl | cases h
/-- from a value to its test -/
theorem test_run {π : Option Pen} {W : WX} {S1 : Hp} {σ : L2.St} {M H : Hp} {fm : Fm} {s : Ps} {Q : Bool → Hp → Prop} {d : DE} (c : Cnt X π W S1 σ M H fm s) (k : Fin X π W σ M H (fun x _ _ H' => Q x H') (dB d fm s)) :
    Fin X π W σ M H (fun x _ M' H' => ∀ v, Da X.K M' v x → ∃ b, v = .bl b ∧ Q b H') (d fm s) := (fin_bind c.ok k).mono fun x s' M' H' t k v hv => by
  obtain ⟨b, e, k⟩ := fin_of k (c.step t).ok
  have e := asB_of e
  subst e
  exact ⟨b, dp_bl hv, k M' H' (c.step t).ok.step⟩
theorem t_cmp {op : CmpOp} {g : G2} {a b : Expr} {da db : DE} (ho : OpS X (compareOp op) g) (ha : RE X a da) (hb : RE X b db) (hm : behindInMarks op b = false) : RT X (.Compare a [op] [b] pos) (dB (dOp g da db)) := fun π W S1 σ M H fm s Q c k =>
  of_pt (pt_cmpR op_max (peMax a) (peMax b) hm) (op_run ho ha hb c (test_run c k))
theorem t_val {e : Expr} {d : DE} (h : RE X e d) (he : ∀ whole, isTrue e X.env whole = (do let v ← whole; standAt e.pos; holding [v] (truthy v)) := by intro _; rfl) : RT X e (dB d) := fun π W S1 σ M H fm s Q c k =>
  of_pt (pt_val (peMax e) he) (h π W S1 σ M H fm s _ c (test_run c k))
def dNotT (t : DT) : DT := fun fm => (t fm).bind fun b => Mo.pure (!b)
def dAndT (t u : DT) : DT := fun fm => (t fm).bind fun b => match b with
  | true => u fm
  | false => Mo.pure false
def dOrT (t u : DT) : DT := fun fm => (t fm).bind fun b => match b with
  | true => Mo.pure true
  | false => u fm
theorem t_not {a : Expr} {d : DT} (h : RT X a d) : RT X (.UnaryOp .Not a pos) (dNotT d) := fun π W S1 σ M H fm s Q c k =>
  of_pt (pt_not (ptMax a)) (h π W S1 σ M H fm s _ c ((fin_bind c.ok k).mono fun b s' M' H' t k => k.ok_ (c.step t).ok))
theorem t_w {a : Expr} {d : DT} (h : RW X a d) : RT X a d := fun π W S1 σ M H fm s Q c k => of_pt (PW.pt (pwMax a)) (h π W S1 σ M H fm s Q c k)
theorem w_and1 {a : Expr} {d : DT} (h : RT X a d) : RW X (.BoolOp .And [a] pos) d := fun π W S1 σ M H fm s Q c k => of_pw (pw_and1 (ptMax a)) (h π W S1 σ M H fm s Q c k)
theorem w_or1 {a : Expr} {d : DT} (h : RT X a d) : RW X (.BoolOp .Or [a] pos) d := fun π W S1 σ M H fm s Q c k => of_pw (pw_or1 (ptMax a)) (h π W S1 σ M H fm s Q c k)
theorem w_and {a b : Expr} {rest : List Expr} {d u : DT} (h : RT X a d) (h2 : RW X (.BoolOp .And (b :: rest) pos) u) : RW X (.BoolOp .And (a :: b :: rest) pos) (dAndT d u) := fun π W S1 σ M H fm s Q c k =>
  of_pw (pw_and (ptMax a) (pwMax _)) (h π W S1 σ M H fm s _ c ((fin_bind c.ok k).mono fun b s' M' H' t k => by
    cases b with
    | true => exact h2 π W S1 σ M' H' fm s' Q (c.step t) k
    | false => exact k.ok_ (c.step t).ok))
theorem w_or {a b : Expr} {rest : List Expr} {d u : DT} (h : RT X a d) (h2 : RW X (.BoolOp .Or (b :: rest) pos) u) : RW X (.BoolOp .Or (a :: b :: rest) pos) (dOrT d u) := fun π W S1 σ M H fm s Q c k =>
  of_pw (pw_or (ptMax a) (pwMax _)) (h π W S1 σ M H fm s _ c ((fin_bind c.ok k).mono fun b s' M' H' t k => by
    cases b with
    | false => exact h2 π W S1 σ M' H' fm s' Q (c.step t) k
    | true => exact k.ok_ (c.step t).ok))
/-! ### and, or, not as values (of truth values), a if t else b -/
def dAnd (a b : DE) : DE := fun fm => (a fm).bind fun x => match x with
  | .bool true => b fm
  | .bool false => Mo.pure (.bool false)
  | _ => Mo.bad
def dOr (a b : DE) : DE := fun fm => (a fm).bind fun x => match x with
  | .bool true => Mo.pure (.bool true)
  | .bool false => b fm
  | _ => Mo.bad
def dNot (a : DE) : DE := fun fm => (a fm).bind fun x => match x with
  | .bool b => Mo.pure (.bool (!b))
  | _ => Mo.bad
def dIf (t : DT) (a b : DE) : DE := fun fm => (t fm).bind fun x => match x with
  | true => a fm
  | false => b fm
theorem r_one {op} {a : Expr} {d : DE} (h : RE X a d) : RE X (.BoolOp op [a] pos) d := fun π W S1 σ M H fm s Q c k => of_pe (pe_one (peMax a)) (h π W S1 σ M H fm s Q c k)
theorem r_and {a b : Expr} {rest : List Expr} {d u : DE} (h : RE X a d) (h2 : RE X (.BoolOp .And (b :: rest) pos) u) : RE X (.BoolOp .And (a :: b :: rest) pos) (dAnd d u) := fun π W S1 σ M H fm s Q c k =>
  of_pe (pe_and (peMax a) (peMax _)) (h π W S1 σ M H fm s _ c ((fin_bind c.ok k).mono fun x s' M' H' t k v hv => by
    cases x with
    | bool q =>
      refine ⟨q, dp_bl hv, ?_⟩
      cases q with
      | true => exact h2 π W S1 σ M' H' fm s' Q (c.step t) k
      | false => exact k.ok_ (c.step t).ok _ (.bl false)
    | _ => exact False.elim k))
theorem r_or {a b : Expr} {rest : List Expr} {d u : DE} (h : RE X a d) (h2 : RE X (.BoolOp .Or (b :: rest) pos) u) : RE X (.BoolOp .Or (a :: b :: rest) pos) (dOr d u) := fun π W S1 σ M H fm s Q c k =>
  of_pe (pe_or (peMax a) (peMax _)) (h π W S1 σ M H fm s _ c ((fin_bind c.ok k).mono fun x s' M' H' t k v hv => by
    cases x with
    | bool q =>
      refine ⟨q, dp_bl hv, ?_⟩
      cases q with
      | false => exact h2 π W S1 σ M' H' fm s' Q (c.step t) k
      | true => exact k.ok_ (c.step t).ok _ (.bl true)
    | _ => exact False.elim k))
theorem r_not {a : Expr} {d : DE} (h : RE X a d) : RE X (.UnaryOp .Not a pos) (dNot d) := fun π W S1 σ M H fm s Q c k =>
  of_pe (L2.pe_not (peMax a)) (h π W S1 σ M H fm s _ c ((fin_bind c.ok k).mono fun x s' M' H' t k v hv => by
    cases x with
    | bool q => exact ⟨q, dp_bl hv, k.ok_ (c.step t).ok _ (.bl (!q))⟩
    | _ => exact False.elim k))
theorem r_if {t a b : Expr} {dt : DT} {da db : DE} (ht : RT X t dt) (ha : RE X a da) (hb : RE X b db) : RE X (.IfExp t a b pos) (dIf dt da db) := fun π W S1 σ M H fm s Q c k =>
  of_pe (pe_ifExp (ptMax t) (peMax a) (peMax b)) (ht π W S1 σ M H fm s _ c ((fin_bind c.ok k).mono fun x s' M' H' t k => by
    cases x with
    | true => exact ha π W S1 σ M' H' fm s' Q (c.step t) k
    | false => exact hb π W S1 σ M' H' fm s' Q (c.step t) k))
def gNeg : PyData → Option PyData
  | .int i => some (.int (-i))
  | _ => none
def dNeg (a : DE) : DE := fun fm => (a fm).bind fun x => Mo.of (gNeg x)
theorem r_neg {a : Expr} {d : DE} (h : RE X a d) : RE X (.UnaryOp .USub a pos) (dNeg d) := fun π W S1 σ M H fm s Q c k =>
  of_pe (pe_un un_neg (peMax a)) (h π W S1 σ M H fm s _ c ((fin_bind c.ok k).mono fun x s' M' H' t k v hv => by
    obtain ⟨z, e, k⟩ := fin_of k (c.step t).ok
    cases x with
    | int i =>
      cases e
      exact ⟨i, dp_int hv, k M' H' (c.step t).ok.step _ (.int _)⟩
    | _ => cases e))
/-! ### None -/
def dIsN (a : DE) : DE := fun fm => (a fm).bind fun x => Mo.pure (.bool (!notNone x))
def dNotN (a : DE) : DE := fun fm => (a fm).bind fun x => Mo.pure (.bool (notNone x))
theorem da_non {K : PySem.W.Frag} {M : Hp} {v : V} {x : PyData} (h : Da K M v x) : decide (v = .non) = !notNone x := by
  cases h <;> first | rfl | (simp [notNone])
theorem r_isN {a : Expr} {d : DE} {j pos'} (h : RE X a d) : RE X (.Compare a [.Is] [.Constant .none j pos'] pos) (dIsN d) := fun π W S1 σ M H fm s Q c k =>
  of_pe (pe_cmp (pc_isN (peMax a))) (h π W S1 σ M H fm s _ c ((fin_bind c.ok k).mono fun x s' M' H' t k v hv => by
    show Q (.bl (decide (v = .non))) H'
    rw [da_non hv]
    exact k.ok_ (c.step t).ok _ (.bl _)))
theorem r_notN {a : Expr} {d : DE} {j pos'} (h : RE X a d) : RE X (.Compare a [.IsNot] [.Constant .none j pos'] pos) (dNotN d) := fun π W S1 σ M H fm s Q c k =>
  of_pe (pe_cmp (pc_notN (peMax a))) (h π W S1 σ M H fm s _ c ((fin_bind c.ok k).mono fun x s' M' H' t k v hv => by
    show Q (.bl (!decide (v = .non))) H'
    rw [da_non hv, Bool.not_not]
    exact k.ok_ (c.step t).ok _ (.bl _)))
theorem t_isN {a : Expr} {d : DE} {j pos'} (h : RE X a d) : RT X (.Compare a [.Is] [.Constant .none j pos'] pos) (dB (dIsN d)) := fun π W S1 σ M H fm s Q c k =>
  of_pt (pt_cmp (pc_isN (peMax a))) (h π W S1 σ M H fm s _ c ((fin_bind c.ok (test_run c k)).mono fun x s' M' H' t k v hv => by
    show ∃ b, V.bl (decide (v = .non)) = .bl b ∧ Q b H'
    rw [da_non hv]
    exact k.ok_ (c.step t).ok _ (.bl _)))
theorem t_notN {a : Expr} {d : DE} {j pos'} (h : RE X a d) : RT X (.Compare a [.IsNot] [.Constant .none j pos'] pos) (dB (dNotN d)) := fun π W S1 σ M H fm s Q c k =>
  of_pt (pt_cmp (pc_notN (peMax a))) (h π W S1 σ M H fm s _ c ((fin_bind c.ok (test_run c k)).mono fun x s' M' H' t k v hv => by
    show ∃ b, V.bl (!decide (v = .non)) = .bl b ∧ Q b H'
    rw [da_non hv, Bool.not_not]
    exact k.ok_ (c.step t).ok _ (.bl _)))
end Rf

set_option maxRecDepth 100000
set_option maxHeartbeats 4000000
/-! operations, by data -/
namespace Rf
open PySem PySem.Spec PyProof.Rows L2 Gd Dt Dl Ee Sd
open Evl (Ex Ex.refl Ex.trans Ex.new ex_l ex_t sq_of st_of fresh_back)
variable {X : Cx} {pos : Pos}
instance (i j : Int) : Decidable (CMul i j) := by unfold CMul; exact inferInstance
instance (i j : Int) : Decidable (CPow i j) := by unfold CPow; exact inferInstance
instance (i j : Int) : Decidable (CDivW i j) := by unfold CDivW; exact inferInstance
def gAdd : G2
  | .int i, .int j => some (.int (i + j))
  | .tuple a, .tuple b => if a.length + b.length ≤ 100000 then some (.tuple (a ++ b)) else none
  | .list a, .list b => if a.length + b.length ≤ 100000 then some (.list (a ++ b)) else none
  | _, _ => none
def gSub : G2
  | .int i, .int j => some (.int (i - j))
  | _, _ => none
def gMul : G2
  | .int i, .int j => if CMul i j then some (.int (i * j)) else none
  | .tuple a, .int k => if 0 ≤ k ∧ k ≤ 1000 ∧ a.length ≤ 1000 then some (.tuple (List.replicate k.toNat a).flatten) else none
  | _, _ => none
def gMod : G2
  | .int i, .int j => if 0 < j then some (.int (i % j)) else none
  | _, _ => none
def gDiv : G2
  | .int i, .int j => if CDivW i j then some (.int (i / j)) else none
  | _, _ => none
def gPow : G2
  | .int i, .int j => if CPow i j then some (.int (i ^ j.toNat)) else none
  | _, _ => none
/-- list + list, both read alone -/
def rCatR (K : PySem.W.Frag) : R2 := fun x y H Q => ∃ l b xs zs, x = .ref l ∧ y = .ref b ∧ SqL K H l xs ∧ SqL K H b zs ∧ xs.length + zs.length ≤ sizeLine ∧ ∀ p, H p = none → Q (.ref p) (upd H p (.lst (xs ++ zs)))
theorem op_catR : OpR X (binaryOp .Add) (rCatR X.K) := by
  intro pins s σ H x y v u Q I rx ry h
  obtain ⟨l, b, xs, zs, rfl, rfl, hH, hB, hz, q⟩ := h
  cases rx
  cases ry
  obtain ⟨its, r, ⟨o1, n1, e1, c1, d1, f1⟩, _⟩ := I.list hH
  obtain ⟨its2, r2, ⟨o2, n2, e2, c2, d2, f2⟩, _⟩ := I.list hB
  obtain ⟨cls1, dd1, data1, sl1⟩ := o1
  obtain ⟨cls2, dd2, data2, sl2⟩ := o2
  simp only at c1 d1 f1 c2 d2 f2
  subst c1 d1 f1 c2 d2 f2
  have hl := r.length
  have hl2 := r2.length
  have ea : its.toArray ++ its2.toArray = (its ++ its2).toArray := by simp
  refine concat_meets ⟨_, e1, rfl⟩ ⟨_, e2, rfl⟩ noFill_list_add seq_list_add PySem.F.slot_list_add PySem.F.entry_list_add (PySem.F.args_list_add_2 _ _) (list_addW l b its.toArray its2.toArray n1 n2 none none sl1 sl2 (by rw [List.size_toArray, List.size_toArray]; omega)) ⟨e1, e2, ?_⟩
  rw [ea]
  exact ⟨.ref _, _, I.lnew (t' := s.toks) (r.append r2) (by rw [List.length_append]; omega), rfl, q _ I.fresh⟩
theorem od_catR {K : PySem.W.Frag} {π : Option Pn} {ds es : List PyData} (hz : ds.length + es.length ≤ 100000) : OpD K π (rCatR K) (.list ds) (.list es) (· = .list (ds ++ es)) := fun x y H0 H1 hx hy o Q q => by
  obtain ⟨a, xs, rfl, hs, hd⟩ := dp_lst hx
  obtain ⟨b, ys, rfl, ht, he⟩ := dp_lst hy
  have l1 := dps_len hd
  have l2 := dps_len he
  refine ⟨a, b, xs, ys, rfl, rfl, ex_l o.ex hs, ex_l o.ex ht, Evl.sz_of (by omega), fun p hp => ?_⟩
  have s4 := o.new hp (Ex.new hp) (upd_same (o := .lst (xs ++ ys)))
  exact q _ _ _ _ rfl s4 (.lst (sq_of upd_same) (dps_ex s4.ex (dps_app hd he)))
theorem os_add : OpS X (binaryOp .Add) gAdd := fun x y z e => by
  unfold gAdd at e
  split at e
  · cases e; exact ⟨_, op_add, od_I0 fun _ => .int _⟩
  · split at e
    · cases e; exact ⟨_, op_catA, od_cat (by assumption)⟩
    · cases e
  · split at e
    · cases e; exact ⟨_, op_catR, od_catR (by assumption)⟩
    · cases e
  · cases e
theorem os_sub : OpS X (binaryOp .Sub) gSub := fun x y z e => by
  unfold gSub at e
  split at e
  · cases e; exact ⟨_, op_sub, od_I0 fun _ => .int _⟩
  · cases e
theorem os_mul : OpS X (binaryOp .Mult) gMul := fun x y z e => by
  unfold gMul at e
  split at e
  · split at e
    · cases e; exact ⟨_, op_mul, od_I (by assumption) fun _ => .int _⟩
    · cases e
  · split at e
    · rename_i h
      cases e; exact ⟨_, op_repA, od_rep h.1 h.2.1 h.2.2⟩
    · cases e
  · cases e
theorem os_mod : OpS X (binaryOp .Mod) gMod := fun x y z e => by
  unfold gMod at e
  split at e
  · split at e
    · cases e; exact ⟨_, op_mod, od_I (by assumption) fun _ => .int _⟩
    · cases e
  · cases e
theorem os_div : OpS X (binaryOp .FloorDiv) gDiv := fun x y z e => by
  unfold gDiv at e
  split at e
  · split at e
    · cases e; exact ⟨_, op_fdivW, od_I (by assumption) fun _ => .int _⟩
    · cases e
  · cases e
theorem os_pow : OpS X (binaryOp .Pow) gPow := fun x y z e => by
  unfold gPow at e
  split at e
  · split at e
    · cases e; exact ⟨_, op_pow, od_I (by assumption) fun _ => .int _⟩
    · cases e
  · cases e
/-! ### comparisons -/
def gEq : G2
  | .int i, .int j => some (.bool (decide (i = j)))
  | x, .str z => if noErr x = true then some (.bool (isTxt z x)) else none
  | x, y => if SeqAt.shaped x = true ∧ SeqAt.shaped y = true then some (.bool (PyData.eqv x y)) else match x, y with
    | .tuple xs, .tuple [] => some (.bool xs.isEmpty)
    | _, _ => none
def gNe : G2
  | .int i, .int j => some (.bool (!decide (i = j)))
  | .str x, .str y => some (.bool (!decide (x = y)))
  | x, y => if SeqAt.shaped x = true ∧ SeqAt.shaped y = true then some (.bool (!PyData.eqv x y)) else none
def gLt : G2
  | .int i, .int j => some (.bool (decide (i < j)))
  | x, y => if keyD x = true ∧ keyD y = true ∧ like x y = true ∧ x.depth ≤ 60 then some (.bool (decide (enc x < enc y))) else none
def gLe : G2
  | .int i, .int j => some (.bool (decide (i ≤ j)))
  | _, _ => none
def gGt : G2
  | .int i, .int j => some (.bool (decide (j < i)))
  | _, _ => none
def gGe : G2
  | .int i, .int j => some (.bool (decide (j ≤ i)))
  | _, _ => none
def strsOf : List PyData → Option (List Str)
  | [] => some []
  | .str z :: r => (strsOf r).map (z :: ·)
  | _ => none
/-- a value in a tuple of texts -/
def gIn : G2
  | x, .tuple ys => match strsOf ys with
    | some zs => if noErr x = true then some (.bool (zs.any fun z => isTxt z x)) else none
    | none => none
  | x, .list ys => if SeqAt.shaped x = true ∧ SeqAt.shaped (.list ys) = true then some (.bool (ys.any fun z => PyData.eqv z x)) else none
  | _, _ => none
theorem strsOf_eq : ∀ {ys : List PyData} {zs : List Str}, strsOf ys = some zs → ys = zs.map .str
  | [], zs, h => by cases h; rfl
  | .str z :: r, zs, h => by
    unfold strsOf at h
    cases e : strsOf r with
    | none => rw [e] at h; cases h
    | some q =>
      rw [e] at h
      cases h
      rw [strsOf_eq e]
      rfl
  | .none :: _, _, h => by cases h
  | .bool _ :: _, _, h => by cases h
  | .int _ :: _, _, h => by cases h
  | .list _ :: _, _, h => by cases h
  | .tuple _ :: _, _, h => by cases h
  | .dict _ :: _, _, h => by cases h
theorem os_eq (hu : X.A.units + 64 < cLine) : OpS X (compareOp .Eq) gEq := fun x y z e => by
  unfold gEq at e
  split at e
  · cases e; exact ⟨_, op_eq, od_eqI⟩
  · split at e
    · cases e; exact ⟨_, op_eqT hu, od_eqT (by assumption)⟩
    · cases e
  · split at e
    · rename_i h
      cases e; exact ⟨_, op_eqD hu, od_eqD h.1 h.2⟩
    · split at e
      · cases e; exact ⟨_, op_eq0 hu, od_eq0⟩
      · cases e
theorem od_neI {K : PySem.W.Frag} {π : Option Pn} {a b : Int} : OpD K π rNe (.int a) (.int b) (· = .bool (!decide (a = b))) := opd_val (v := .bl (!decide (a = b))) (fun _ => .bl _) fun x y H Q hx hy q => by
  rw [dp_int hx, dp_int hy]
  have e : (!decide (V.int a = V.int b)) = (!decide (a = b)) := by
    by_cases h : a = b
    · subst h; simp
    · simp [h]
  exact ⟨rfl, by rw [e]; exact q⟩
theorem os_ne (hu : X.A.units + 64 < cLine) : OpS X (compareOp .NotEq) gNe := fun x y z e => by
  unfold gNe at e
  split at e
  · cases e; exact ⟨_, op_ne, od_neI⟩
  · cases e; exact ⟨_, op_ne, od_neS⟩
  · split at e
    · rename_i h
      cases e; exact ⟨_, op_neD hu, od_neD h.1 h.2⟩
    · cases e
theorem os_lt (hu : X.A.units + 64 < cLine) : OpS X (compareOp .Lt) gLt := fun x y z e => by
  unfold gLt at e
  split at e
  · cases e; exact ⟨_, op_lt, od_lt⟩
  · split at e
    · rename_i h
      cases e; exact ⟨_, op_ltD hu, od_ltD h.1 h.2.1 h.2.2.1 h.2.2.2⟩
    · cases e
theorem os_le : OpS X (compareOp .LtE) gLe := fun x y z e => by
  unfold gLe at e
  split at e
  · cases e; exact ⟨_, op_le, od_le⟩
  · cases e
theorem os_gt : OpS X (compareOp .Gt) gGt := fun x y z e => by
  unfold gGt at e
  split at e
  · cases e; exact ⟨_, op_gt, od_gt⟩
  · cases e
theorem os_ge : OpS X (compareOp .GtE) gGe := fun x y z e => by
  unfold gGe at e
  split at e
  · cases e; exact ⟨_, op_ge, od_ge⟩
  · cases e
/-- a <= b <= c of whole numbers -/
def gChain (f g : Int → Int → Bool) : PyData → PyData → PyData → Option PyData
  | .int a, .int b, .int c => some (.bool (f a b && g b c))
  | _, _, _ => none
def dChain (f g : Int → Int → Bool) (a b c : DE) : DE := fun fm => (a fm).bind fun x => (b fm).bind fun y => match x, y with
  | .int i, .int j => match f i j with
    | true => (c fm).bind fun z => match z with
      | .int k => Mo.pure (.bool (g j k))
      | _ => Mo.bad
    | false => Mo.pure (.bool false)
  | _, _ => Mo.bad
/-- a comparison of whole numbers alone -/
def CmpI (X : Cx) (op : CmpOp) (f : Int → Int → Bool) : Prop := OpR X (compareOp op) (rI0 fun i j => .bl (f i j))
theorem ci_lt : CmpI X .Lt fun i j => decide (i < j) := op_lt
theorem ci_le : CmpI X .LtE fun i j => decide (i ≤ j) := op_le
theorem r_chain {o1 o2 : CmpOp} {f g : Int → Int → Bool} {a b c : Expr} {da db dc : DE} (h1 : CmpI X o1 f) (h2 : CmpI X o2 g) (ha : RE X a da) (hb : RE X b db) (hc : RE X c dc) (hm : lastMarks [o1, o2] [b, c] = false := by with_unfolding_all rfl) :
    RE X (.Compare a [o1, o2] [b, c] pos) (dChain f g da db dc) := fun π W S1 σ M H fm s Q c0 k => by
  refine of_pe (pe_chain h1 h2 (peMax a) (peMax b) (peMax c) hm) ?_
  refine ha π W S1 σ M H fm s _ c0 ((fin_bind c0.ok k).mono fun x s' M' H' t k v hv => ?_)
  have c1 := c0.step t
  refine hb π W S1 σ M' H' fm s' _ c1 ((fin_bind c1.ok k).mono fun y s2 M2 H2 t2 k w hw => ?_)
  have c2 := c1.step t2
  cases x with
  | int i =>
    cases y with
    | int j =>
      refine ⟨i, j, dp_int hv, dp_int hw, f i j, rfl, ?_⟩
      simp only at k
      cases e : f i j with
      | true =>
        rw [if_pos rfl]
        simp only [e] at k
        refine hc π W S1 σ M2 H2 fm s2 _ c2 ((fin_bind c2.ok k).mono fun z s3 M3 H3 t3 k u hu => ?_)
        cases z with
        | int q => exact ⟨j, q, dp_int hw, dp_int hu, k.ok_ (c2.step t3).ok _ (.bl _)⟩
        | _ => exact False.elim k
      | false =>
        rw [if_neg Bool.false_ne_true]
        simp only [e] at k
        exact k.ok_ c2.ok _ (.bl false)
    | _ => exact False.elim k
  | _ => exact False.elim k
/-! ### membership -/
theorem os_in (hu : X.A.units + 65 < cLine) : OpS X (compareOp .In) gIn := fun x y z e => by
  unfold gIn at e
  split at e
  · split at e
    · rename_i h
      split at e
      · cases e
        rw [strsOf_eq h]
        exact ⟨_, op_inT (by omega), od_inT (by assumption)⟩
      · cases e
    · cases e
  · split at e
    · rename_i h
      cases e
      refine ⟨_, op_inD hu, opd_val (v := .bl _) (fun _ => .bl _) fun a b H Q hx hy q => ⟨_, _, da_shaped hx h.1, da_shaped hy h.2, h.1, h.2, q⟩⟩
    · cases e
  · cases e
/-! ### subscripts, slices -/
def gIx : G2
  | .tuple xs, .int i => atI xs i
  | .list xs, .int i => atI xs i
  | _, _ => none
theorem r_ix {a b : Expr} {da db : DE} (ha : RE X a da) (hb : RE X b db) (hs : PlainIx b := by exact fun _ _ => rfl) : RE X (.Subscript a b pos) (dOp gIx da db) := fun π W S1 σ M H fm s Q c k => by
  refine of_pe (pe_ix (ix_tup.or ix_list) (peMax a) (peMax b) hs) ?_
  refine ha π W S1 σ M H fm s _ c ((fin_bind c.ok k).mono fun x s' M' H' t k v hv => ?_)
  have c1 := c.step t
  refine hb π W S1 σ M' H' fm s' _ c1 ((fin_bind c1.ok k).mono fun y s2 M2 H2 t2 k w hw => ?_)
  have c2 := c1.step t2
  obtain ⟨z, e, k⟩ := fin_of k c2.ok
  unfold gIx at e
  split at e
  · exact .inl (od_ixT e v w M2 H2 (dp_ex t2.ex hv) hw c2.ok.none Q fun u d N H3 ed t hu => by
      subst ed
      exact k N H3 (Step.of_none c2.ok t) u hu)
  · exact .inr (od_ixL e v w M2 H2 (dp_ex t2.ex hv) hw c2.ok.none Q fun u d N H3 ed t hu => by
      subst ed
      exact k N H3 (Step.of_none c2.ok t) u hu)
  · cases e
/-- a slice's part -/
def RO (X : Cx) (e : Option Expr) (d : Fm → Mo (Option Int)) : Prop := ∀ (π : Option Pen) (W : WX) (S1 : Hp) (σ : L2.St) (M H : Hp) (fm : Fm) (s : Ps) (Q : Option Int → Hp → Prop), Cnt X π W S1 σ M H fm s →
  Fin X π W σ M H (fun x _ _ H' => Q x H') (d fm s) → ∀ pins sh, Inv X pins σ H sh → wpAny (model X.prog X.w) X.A (evalPart e X.env) (fun u s' => ∃ o H', Inv X pins σ H' s' ∧ IsPart u o ∧ Q o H') X.xe sh
def dNoP : Fm → Mo (Option Int) := fun _ => Mo.pure none
def asI : PyData → Option (Option Int)
  | .int i => some (some i)
  | _ => none
def dP (d : DE) : Fm → Mo (Option Int) := fun fm => (d fm).bind fun x => Mo.of (asI x)
theorem ro_none : RO X none dNoP := fun π W S1 σ M H fm s Q c k pins sh I => po_none.run pins sh σ H Q I (k.ok_ c.ok)
theorem ro_some {e : Expr} {d : DE} (h : RE X e d) : RO X (some e) (dP d) := fun π W S1 σ M H fm s Q c k pins sh I => (po_some (peMax e)).run pins sh σ H Q I
  (h π W S1 σ M H fm s _ c ((fin_bind c.ok k).mono fun x s' M' H' t k v hv => by
    obtain ⟨z, e, k⟩ := fin_of k (c.step t).ok
    cases x with
    | int i =>
      cases e
      exact ⟨i, dp_int hv, k M' H' (c.step t).ok.step⟩
    | _ => cases e))
def gSl : PyData → Option Int → Option Int → Option PyData
  | .tuple xs, lo, hi => some (.tuple (Dl.cutD xs lo hi))
  | .list xs, lo, hi => some (.list (Dl.cutD xs lo hi))
  | _, _, _ => none
def dSl (a : DE) (lo hi : Fm → Mo (Option Int)) : DE := fun fm => (a fm).bind fun x => (lo fm).bind fun l => (hi fm).bind fun h => Mo.of (gSl x l h)
def poMax (X : Cx) (e : Option Expr) : TO := fun σ H Q => ∀ pins sh, Inv X pins σ H sh → wpAny (model X.prog X.w) X.A (evalPart e X.env) (fun u s' => ∃ o H', Inv X pins σ H' s' ∧ IsPart u o ∧ Q o H') X.xe sh
theorem poM (e : Option Expr) : PO X e (poMax X e) := ⟨fun pins s σ H Q I h => h pins s I⟩
theorem r_sl {a : Expr} {lo hi : Option Expr} {p2 : Pos} {da : DE} {dl dh : Fm → Mo (Option Int)} (ha : RE X a da) (hl : RO X lo dl) (hh : RO X hi dh) : RE X (.Subscript a (.Slice lo hi none p2) pos) (dSl da dl dh) := fun π W S1 σ M H fm s Q c k => by
  refine of_pe (pe_slice (sl_tupA.or sl_list) (peMax a) (poM lo) (poM hi)) ?_
  refine ha π W S1 σ M H fm s _ c ((fin_bind c.ok k).mono fun x s' M' H' t k v hv => ?_)
  have c1 := c.step t
  refine hl π W S1 σ M' H' fm s' _ c1 ((fin_bind c1.ok k).mono fun y s2 M2 H2 t2 k => ?_)
  have c2 := c1.step t2
  refine hh π W S1 σ M2 H2 fm s2 _ c2 ((fin_bind c2.ok k).mono fun z s3 M3 H3 t3 k => ?_)
  have c3 := c2.step t3
  have kv := dp_ex (t2.ex.trans t3.ex) hv
  obtain ⟨r, e, k⟩ := fin_of k c3.ok
  cases x with
  | tuple xs =>
    cases e
    obtain ⟨p, us, rfl, hs, hd⟩ := dp_tup kv
    refine .inl ⟨p, us, rfl, ex_t c3.ok.ex hs, fun hw => ?_, fun hw p hp => ?_⟩
    · have e2 : Dl.cutD xs y z = xs := by
        unfold Dl.cutD
        rw [← dps_len hd, hw.1, hw.2, dps_len hd]
        simp
      rw [e2] at k
      exact k M3 H3 c3.ok.step _ (.tup hs hd)
    · have t4 := c3.ok.new (ob := .tup (cutV us y z)) hp
      exact k _ _ t4 _ (.tup (st_of upd_same) (dps_ex t4.ex (dps_cut y z hd)))
  | list xs =>
    cases e
    obtain ⟨p, us, rfl, hs, hd⟩ := dp_lst kv
    refine .inr ⟨p, us, rfl, ex_l c3.ok.ex hs, fun p hp => ?_⟩
    have t4 := c3.ok.new (ob := .lst (cutV us y z)) hp
    exact k _ _ t4 _ (.lst (sq_of upd_same) (dps_ex t4.ex (dps_cut y z hd)))
  | _ => cases e
def gRev : PyData → Option PyData
  | .tuple xs => some (.tuple xs.reverse)
  | _ => none
def dRev (a : DE) : DE := fun fm => (a fm).bind fun x => Mo.of (gRev x)
theorem r_rev {a : Expr} {k : Nat} {p1 p2 p3 : Pos} {d : DE} (h : RE X a d) : RE X (.Subscript a (.Slice none none (some (.UnaryOp .USub (.Constant (.int 1) k p1) p2)) p3) pos) (dRev d) := fun π W S1 σ M H fm s Q c k => by
  refine of_pe (pe_revT (peMax a)) ?_
  refine h π W S1 σ M H fm s _ c ((fin_bind c.ok k).mono fun x s' M' H' t k v hv => ?_)
  have c1 := c.step t
  obtain ⟨r, e, k⟩ := fin_of k c1.ok
  cases x with
  | tuple xs =>
    cases e
    obtain ⟨p, us, rfl, hs, hd⟩ := dp_tup hv
    refine ⟨p, us, rfl, ex_t c1.ok.ex hs, fun p hp => ?_⟩
    have t4 := c1.ok.new (ob := .tup us.reverse) hp
    exact k _ _ t4 _ (.tup (st_of upd_same) (dps_ex t4.ex (dps_rev hd)))
  | _ => cases e
/-! ### built-ins -/
def CbS (X : Cx) (f : Value) (g : List PyData → Option PyData) : Prop := ∀ xs z, g xs = some z → ∃ r, CallR X f r ∧ CbD X.K none r xs (· = z)
def cMax (X : Cx) (f : Value) : List V → Hp → VK → Prop := fun xs H Q => ∀ (pins : List (Addr × Obj)) (s : Shared) (σ : L2.St) (us : List Value), Inv X pins σ H s → Vals xs us → wpAny (model X.prog X.w) X.A (call f us) (EP X pins σ Q) X.xe s
theorem cr_max_ {f : Value} : CallR X f (cMax X f) := fun pins s σ H xs us Q I r h => h pins s σ us I r
def dCb (g : List PyData → Option PyData) (ds : DL) : DE := fun fm => (ds fm).bind fun xs => Mo.of (g xs)
theorem cb_run {f : Value} {g : List PyData → Option PyData} (hc : CbS X f g) {es : List Expr} {ds : DL} (h : RL X es ds) {π : Option Pen} {W : WX} {S1 : Hp} {σ : L2.St} {M H : Hp} {fm : Fm} {s : Ps} {Q : VK} (c : Cnt X π W S1 σ M H fm s)
    (k : Fin X π W σ M H (fun x _ M' H' => ∀ v, Da X.K M' v x → Q v H') (dCb g ds fm s)) : tCB (cMax X f) (aMax X es) σ H Q :=
  h π W S1 σ M H fm s _ c ((fin_bind c.ok k).mono fun xs s' M' H' t k vs hvs => by
    have c1 := c.step t
    obtain ⟨z, e, k⟩ := fin_of k c1.ok
    obtain ⟨r, hr, hd⟩ := hc xs z e
    intro pins sh σ' us I rv
    exact hr pins sh σ' H' vs us Q I rv (hd vs M' H' hvs c1.ok.none Q fun u d N H2 ed t hu => by
      subst ed
      exact k N H2 (Step.of_none c1.ok t) u hu))
theorem r_cb {x : Str} {id : String} {p : Pos} {g : List PyData → Option PyData} {e : Expr} {es : List Expr} {ds : DL} (hc : CbS X (.builtin id) g) (hg : Gl X x) (hm : X.mg x = none) (hv : bootBuiltins x = some (.builtin id)) (h : RL X (e :: es) ds) (hn : x ≠ "__name__" := by decide) (hdb : (x == ("__debug__" : Str)) = false := by decide)
    (he : starEach (e :: es) X.env = (false, eval e X.env) :: starEach es X.env := by rfl) (hpl : (backTo pos (starEach es X.env)).any (·.1) = false := by rfl) : RE X (.Call (.Name x p) (e :: es) [] pos) (dCb g ds) := fun π W S1 σ M H fm s Q c k =>
  of_pe (pe_callB cr_max_ hg hm hv (paMax _) hn hdb he hpl) (cb_run hc h c k)
theorem r_ct {x : Str} {T : String} {p : Pos} {g : List PyData → Option PyData} {e : Expr} {es : List Expr} {ds : DL} (hc : CbS X (.type T) g) (hg : Gl X x) (hm : X.mg x = none) (hv : bootBuiltins x = some (.type T)) (h : RL X (e :: es) ds) (hn : x ≠ "__name__" := by decide) (hdb : (x == ("__debug__" : Str)) = false := by decide)
    (he : starEach (e :: es) X.env = (false, eval e X.env) :: starEach es X.env := by rfl) (hpl : (backTo pos (starEach es X.env)).any (·.1) = false := by rfl) : RE X (.Call (.Name x p) (e :: es) [] pos) (dCb g ds) := fun π W S1 σ M H fm s Q c k =>
  of_pe (pe_callTy cr_max_ hg hm hv (paMax _) hn hdb he hpl) (cb_run hc h c k)
def gLen : List PyData → Option PyData
  | [.tuple xs] => some (.int xs.length)
  | [.list xs] => some (.int xs.length)
  | _ => none
def gInt : List PyData → Option PyData
  | [.int i] => some (.int i)
  | _ => none
def gTupOf : List PyData → Option PyData
  | [.list xs] => some (.tuple xs)
  | [.tuple xs] => some (.tuple xs)
  | _ => none
def gLstOf : List PyData → Option PyData
  | [.list xs] => some (.list xs)
  | [.tuple xs] => some (.list xs)
  | _ => none
def boolsOf : List PyData → Option (List Bool)
  | [] => some []
  | .bool z :: r => (boolsOf r).map (z :: ·)
  | _ => none
def gAll : List PyData → Option PyData
  | [.list xs] => (boolsOf xs).map fun bs => .bool (bs.all id)
  | _ => none
def gAny : List PyData → Option PyData
  | [.list xs] => (boolsOf xs).map fun bs => .bool (bs.any id)
  | _ => none
def gRepr : List PyData → Option PyData
  | [d] => if d.showable = true ∧ okD d = true ∧ d.depth ≤ 40 ∧ d.shown.length ≤ sizeLine then some (.str d.shown) else none
  | _ => none
def gMax2 : List PyData → Option PyData
  | [.int i, .int j] => some (.int (max i j))
  | _ => none
def intsOf : List PyData → Option (List Int)
  | [] => some []
  | .int z :: r => (intsOf r).map (z :: ·)
  | _ => none
def gSum : List PyData → Option PyData
  | [.list xs] => (intsOf xs).map fun ns => .int ns.sum
  | _ => none
theorem boolsOf_eq : ∀ {ys : List PyData} {zs : List Bool}, boolsOf ys = some zs → ys = zs.map .bool
  | [], zs, h => by cases h; rfl
  | .bool z :: r, zs, h => by
    unfold boolsOf at h
    cases e : boolsOf r with
    | none => rw [e] at h; cases h
    | some q =>
      rw [e] at h
      cases h
      rw [boolsOf_eq e]
      rfl
  | .none :: _, _, h => by cases h
  | .str _ :: _, _, h => by cases h
  | .int _ :: _, _, h => by cases h
  | .list _ :: _, _, h => by cases h
  | .tuple _ :: _, _, h => by cases h
  | .dict _ :: _, _, h => by cases h
theorem intsOf_eq : ∀ {ys : List PyData} {zs : List Int}, intsOf ys = some zs → ys = zs.map .int
  | [], zs, h => by cases h; rfl
  | .int z :: r, zs, h => by
    unfold intsOf at h
    cases e : intsOf r with
    | none => rw [e] at h; cases h
    | some q =>
      rw [e] at h
      cases h
      rw [intsOf_eq e]
      rfl
  | .none :: _, _, h => by cases h
  | .str _ :: _, _, h => by cases h
  | .bool _ :: _, _, h => by cases h
  | .list _ :: _, _, h => by cases h
  | .tuple _ :: _, _, h => by cases h
  | .dict _ :: _, _, h => by cases h
theorem bools_map : ∀ bs : List Bool, boolsOf (bs.map .bool) = some bs
  | [] => rfl
  | b :: bs => by simp [boolsOf, bools_map bs]
theorem ints_map : ∀ bs : List Int, intsOf (bs.map .int) = some bs
  | [] => rfl
  | b :: bs => by simp [intsOf, ints_map bs]
theorem cs_len : CbS X (.builtin "len") gLen := fun xs z e => by
  unfold gLen at e
  split at e
  · cases e; exact ⟨_, call_len_seq, cb_lenT⟩
  · cases e; exact ⟨_, call_len_seq, cb_lenL⟩
  · cases e
theorem cs_int : CbS X (.type "int") gInt := fun xs z e => by
  unfold gInt at e
  split at e
  · cases e
    refine ⟨_, call_int1, fun vs H0 H1 h o Q q => ?_⟩
    obtain ⟨v, rfl, hv⟩ := dps1 h
    rw [dp_int hv]
    exact .inl ⟨_, rfl, q _ _ H0 H1 rfl o.stp (.int _)⟩
  · cases e
theorem cs_tuple : CbS X (.type "tuple") gTupOf := fun xs z e => by
  unfold gTupOf at e
  split at e
  · cases e; exact ⟨_, call_tuple_of, cb_tupL⟩
  · cases e; exact ⟨_, call_tuple_of, cb_tupT⟩
  · cases e
theorem cs_list : CbS X (.type "list") gLstOf := fun xs z e => by
  unfold gLstOf at e
  split at e
  · cases e
    refine ⟨_, call_list_of, fun vs H0 H1 h o Q q => ?_⟩
    obtain ⟨v, rfl, hv⟩ := dps1 h
    obtain ⟨a, xs, rfl, hs, hd⟩ := dp_lst hv
    refine ⟨a, xs, rfl, .inl (ex_l o.ex hs), fun p hp => ?_⟩
    have s4 := o.new hp (Ex.new hp) (upd_same (o := .lst xs))
    exact q _ _ _ _ rfl s4 (.lst (sq_of upd_same) (dps_ex s4.ex hd))
  · cases e
    refine ⟨_, call_list_of, fun vs H0 H1 h o Q q => ?_⟩
    obtain ⟨v, rfl, hv⟩ := dps1 h
    obtain ⟨a, xs, rfl, hs, hd⟩ := dp_tup hv
    refine ⟨a, xs, rfl, .inr (ex_t o.ex hs), fun p hp => ?_⟩
    have s4 := o.new hp (Ex.new hp) (upd_same (o := .lst xs))
    exact q _ _ _ _ rfl s4 (.lst (sq_of upd_same) (dps_ex s4.ex hd))
  · cases e
theorem cs_all (hc : X.calm = true) : CbS X (.builtin "all") gAll := fun xs z e => by
  unfold gAll at e
  split at e
  · cases q : boolsOf _ with
    | none => rw [q] at e; cases e
    | some bs =>
      rw [q] at e
      cases e
      rw [boolsOf_eq q]
      exact ⟨_, cr_all hc, cb_all⟩
  · cases e
theorem cs_any (hc : X.calm = true) : CbS X (.builtin "any") gAny := fun xs z e => by
  unfold gAny at e
  split at e
  · cases q : boolsOf _ with
    | none => rw [q] at e; cases e
    | some bs =>
      rw [q] at e
      cases e
      rw [boolsOf_eq q]
      refine ⟨_, cr_any hc, fun vs H0 H1 h o Q q => ?_⟩
      obtain ⟨v, rfl, hv⟩ := dps1 h
      obtain ⟨a, xs, rfl, hs, hd⟩ := dp_lst hv
      rw [map_bl hd] at hs
      exact ⟨a, bs, rfl, ex_l o.ex hs, q _ _ H0 H1 rfl o.stp (.bl _)⟩
  · cases e
theorem cs_repr {k : Nat} (hfree : Free X.A) (hr : Room k X.A) (sy : Sy X.base) : CbS X (.builtin "repr") gRepr := fun xs z e => by
  unfold gRepr at e
  split at e
  · split at e
    · rename_i h
      cases e
      exact ⟨_, call_reprE hfree hr sy, cb_reprE h.1 h.2.1 h.2.2.1 h.2.2.2⟩
    · cases e
  · cases e
theorem cs_max2 (hc : X.calm = true) : CbS X (.builtin "max") gMax2 := fun xs z e => by
  unfold gMax2 at e
  split at e
  · rename_i i j
    cases e
    refine ⟨_, call_max2 hc, fun vs H0 H1 h o Q q => ?_⟩
    obtain ⟨v, w, rfl, hv, hw⟩ : ∃ v w, vs = [v, w] ∧ Da X.K H0 v (.int i) ∧ Da X.K H0 w (.int j) := by
      cases h with
      | cons h1 h2 =>
        obtain ⟨w, rfl, hw⟩ := dps1 h2
        exact ⟨_, w, rfl, h1, hw⟩
    rw [dp_int hv, dp_int hw]
    refine ⟨i, j, rfl, q _ _ H0 H1 ?_ o.stp (.int _)⟩
    congr 1
    split <;> omega
  · cases e
theorem cs_sum (hc : X.calm = true) : CbS X (.builtin "sum") gSum := fun xs z e => by
  unfold gSum at e
  split at e
  · cases q : intsOf _ with
    | none => rw [q] at e; cases e
    | some bs =>
      rw [q] at e
      cases e
      rw [intsOf_eq q]
      refine ⟨_, cr_sum hc, fun vs H0 H1 h o Q q => ?_⟩
      obtain ⟨v, rfl, hv⟩ := dps1 h
      obtain ⟨a, xs, rfl, hs, hd⟩ := dp_lst hv
      have em : ∀ {ns : List Int} {vs : List V}, DaAll X.K H0 vs (ns.map .int) → vs = ns.map V.int := fun {ns} => by
        induction ns with
        | nil => intro vs h; cases h; rfl
        | cons n ns ih =>
          intro vs h
          cases h with
          | cons h1 h2 => rw [dp_int h1, ih h2]; rfl
      rw [em hd] at hs
      exact ⟨a, bs, rfl, ex_l o.ex hs, q _ _ H0 H1 rfl o.stp (.int _)⟩
  · cases e
/-! ### isinstance -/
def kOf : String → PyData → Option Bool
  | "int", d => some (Dl.isInt d)
  | "bool", d => some (Dl.isBool d)
  | "tuple", d => some (Dl.isTup d)
  | "str", d => some (Dl.isStr d)
  | _, _ => none
def gIsi (n : String) (d : PyData) : Option PyData := if noErr d = true then (kOf n d).map .bool else none
def dIsi (n : String) (a : DE) : DE := fun fm => (a fm).bind fun x => Mo.of (gIsi n x)
theorem kOf_kit {n : String} {d : PyData} {b : Bool} (h : kOf n d = some b) : kitB (kindD d) n = some b := by
  unfold kOf at h
  split at h
  · cases h; exact kit_int d
  · cases h; exact kit_bool d
  · cases h; exact kit_tup d
  · cases h; exact kit_str d
  · cases h
theorem r_isi {n : String} {a : Expr} {d : DE} {cn : Str} {p p2 : Pos} (hg : Gl X "isinstance") (hm : X.mg "isinstance" = none) (hgc : Gl X cn) (hmc : X.mg cn = none) (hbc : bootBuiltins cn = some (.type n)) (h : RE X a d)
    (hs : starEach [a, .Name cn p2] X.env = (false, eval a X.env) :: starEach [.Name cn p2] X.env := by rfl) (hs2 : starEach [.Name cn p2] X.env = (false, eval (.Name cn p2) X.env) :: starEach [] X.env := by rfl)
    (hpl : (backTo pos (starEach [.Name cn p2] X.env)).any (·.1) = false := by rfl) (hn : cn ≠ "__name__" := by decide) (hdb : (cn == ("__debug__" : Str)) = false := by decide) :
    RE X (.Call (.Name "isinstance" p) [a, .Name cn p2] [] pos) (dIsi n d) := fun π W S1 σ M H fm s Q c k => by
  refine of_pe (pe_callB call_isi hg hm (by decide +kernel) (pa_cons (peMax a) (pa_cons (pe_bltn (v := .ty n) hgc hmc hbc rfl hn hdb) pa_nil hs2) hs) (by decide) (by decide) hs hpl) ?_
  refine h π W S1 σ M H fm s _ c ((fin_bind c.ok k).mono fun x s' M' H' t k v hv => ?_)
  have c1 := c.step t
  obtain ⟨z, e, k⟩ := fin_of k c1.ok
  unfold gIsi at e
  split at e
  · rename_i h1
    cases e2 : kOf n x with
    | none => rw [e2] at e; cases e
    | some b =>
      rw [e2] at e
      cases e
      exact ⟨v, .ty n, _, _, b, rfl, .ty n, tyx_of (dp_ex c1.ok.ex hv) h1, kit_ty (kOf_kit e2), k M' H' c1.ok.step _ (.bl b)⟩
  · cases e
end Rf

set_option maxRecDepth 100000
set_option maxHeartbeats 4000000
/-! arguments, what is walked, targets, comprehensions -/
namespace Rf
open PySem PySem.Spec PyProof.Rows L2 Gd Dt Dl Ee Sd
open Evl (Ex Ex.refl Ex.trans Ex.new ex_l ex_t sq_of st_of fresh_back)
variable {X : Cx} {pos : Pos}
/-! ### arguments -/
def dANil : DA := fun _ => Mo.pure []
def dACons (d : DE) (ds : DA) : DA := fun fm => (d fm).bind fun x => (ds fm).bind fun xs => Mo.pure (.d x :: xs)
def slP : Option Sl → Option (List Int)
  | some (.pen ns) => some ns
  | _ => none
def dAPen (i : Nat) (ds : DA) : DA := fun fm => (Mo.of (slP fm[i]?)).bind fun ns => (ds fm).bind fun xs => Mo.pure (.pen ns :: xs)
theorem ArgOk.ex {K : PySem.W.Frag} {π : Option Pen} {M M' : Hp} {v : V} {a : Arg} (h : ArgOk K π M v a) (e : Ex M M') : ArgOk K π M' v a := by
  cases a with
  | d x => exact dp_ex e h
  | pen ns => exact h
theorem ArgsOk.ex {K : PySem.W.Frag} {π : Option Pen} {M M' : Hp} {vs : List V} {as : List Arg} (h : ArgsOk K π M vs as) (e : Ex M M') : ArgsOk K π M' vs as := by
  induction h with
  | nil => exact .nil
  | cons h t ih => exact .cons (h.ex e) ih
theorem ra_nil : RA X [] dANil := fun π W S1 σ M H fm s Q c k => of_pa pa_nil (show Q [] H from k.ok_ c.ok [] .nil)
theorem ra_cons {e : Expr} {es : List Expr} {d : DE} {ds : DA} (ha : RE X e d) (hr : RA X es ds) (hs : noStar e = true := by rfl) : RA X (e :: es) (dACons d ds) := fun π W S1 σ M H fm s Q c k => by
  refine of_pa (pa_cons (peMax e) (paMax es) (star_no hs)) ?_
  refine ha π W S1 σ M H fm s _ c ((fin_bind c.ok k).mono fun x s' M' H' t k v hv => ?_)
  have c1 := c.step t
  refine hr π W S1 σ M' H' fm s' _ c1 ((fin_bind c1.ok k).mono fun xs s2 M2 H2 t2 k vs hvs => ?_)
  exact k.ok_ (c1.step t2).ok _ (.cons (dp_ex t2.ex hv) hvs)
theorem ra_pen (i : Nat) {x : Str} {p : Pos} {es : List Expr} {ds : DA} (hr : RA X es ds) (hN : X.N[i]? = some x := by rfl) (hv : Vis X.env.scope x := by first | exact Or.inl rfl | exact Or.inr (Or.inl rfl) | exact Or.inr (Or.inr rfl)) (hd : (x == ("__debug__" : Str)) = false := by decide)
    (hcd : (x == ("__classdict__" : Str)) = false := by decide) (hs : starEach (.Name x p :: es) X.env = (false, eval (.Name x p) X.env) :: starEach es X.env := by rfl) : RA X (.Name x p :: es) (dAPen i ds) := fun π W S1 σ M H fm s Q c k => by
  have k := fin_bind c.ok k
  obtain ⟨ns, e, k⟩ := fin_of k c.ok
  refine of_pa (pa_cons (pe_var hN hv hd hcd) (paMax es) hs) ?_
  cases e1 : fm[i]? with
  | none => rw [e1] at e; cases e
  | some sl =>
    rw [e1] at e
    cases sl with
    | pen ns =>
      cases e
      obtain ⟨o, e2, q, hq, rfl, hn⟩ := c.fm.at_ i _ e1
      refine ⟨_, e2, hr π W S1 σ M H fm s _ c ((fin_bind c.ok (k M H c.ok.step)).mono fun xs s2 M2 H2 t2 k vs hvs => ?_)⟩
      exact k.ok_ (c.step t2).ok _ (.cons ⟨q, hq, rfl, hn⟩ hvs)
    | _ => cases e

/-! ### what is walked -/
theorem wd_tup {K : PySem.W.Frag} {π : Option Pn} {N : Hp} {a : Addr} {vs : List V} {xs : List PyData} (hs : SqT K N a vs) (hd : DaAll K N vs xs) : WalkD K π (Itt K a) xs N := by
  refine ⟨fun i M H e1 oM hi => ?_, fun M H e1 oM => ?_, fun i M H x H' e1 oM hi hy => ?_⟩
  · obtain ⟨w, ew, _⟩ := dps_get hd (List.getElem?_eq_getElem hi)
    exact ⟨vs, w, ex_t (e1.trans oM.ex) hs, ew⟩
  · exact ⟨vs, ex_t (e1.trans oM.ex) hs, by rw [dps_len hd]; exact Nat.le_refl _⟩
  · obtain ⟨rfl, hy⟩ := hy
    have z := hy vs (ex_t (e1.trans oM.ex) hs)
    obtain ⟨w, ew, kw⟩ := dps_get hd (List.getElem?_eq_getElem hi)
    rw [z] at ew
    cases ew
    exact ⟨M, _, List.getElem?_eq_getElem hi, oM.stp, dp_ex e1 kw⟩
theorem wd_lst {K : PySem.W.Frag} {π : Option Pn} {N : Hp} {a : Addr} {vs : List V} {xs : List PyData} (hs : SqL K N a vs) (hd : DaAll K N vs xs) : WalkD K π (Itl K a) xs N := by
  refine ⟨fun i M H e1 oM hi => ?_, fun M H e1 oM => ?_, fun i M H x H' e1 oM hi hy => ?_⟩
  · obtain ⟨w, ew, _⟩ := dps_get hd (List.getElem?_eq_getElem hi)
    exact ⟨vs, w, ex_l (e1.trans oM.ex) hs, ew⟩
  · exact ⟨vs, ex_l (e1.trans oM.ex) hs, by rw [dps_len hd]; exact Nat.le_refl _⟩
  · obtain ⟨rfl, hy⟩ := hy
    have z := hy vs (ex_l (e1.trans oM.ex) hs)
    obtain ⟨w, ew, kw⟩ := dps_get hd (List.getElem?_eq_getElem hi)
    rw [z] at ew
    cases ew
    exact ⟨M, _, List.getElem?_eq_getElem hi, oM.stp, dp_ex e1 kw⟩
theorem wd_enumT {K : PySem.W.Frag} {π : Option Pn} {N : Hp} {a : Addr} {us : List V} {xs : List PyData} (hs : SqT K N a us) (hd : DaAll K N us xs) : WalkD K π (IteT K a) (numbered xs) N := by
  have len := dps_len hd
  refine ⟨fun i M H e1 oM hi => ?_, fun M H e1 oM => ?_, fun i M H x H' e1 oM hi hy => ?_⟩
  · rw [numbered_len] at hi
    obtain ⟨y, ey, _⟩ := dps_get hd (List.getElem?_eq_getElem hi)
    exact ⟨us, y, ex_t (e1.trans oM.ex) hs, ey⟩
  · exact ⟨us, ex_t (e1.trans oM.ex) hs, by rw [len, numbered_len]⟩
  · rw [numbered_len] at hi
    obtain ⟨T, u, rfl, hT, rfl, hx⟩ := hy
    have z := hx us (ex_t (e1.trans oM.ex) hs)
    have g := List.getElem?_eq_getElem hi
    obtain ⟨y, ey, ky⟩ := dps_get hd g
    rw [z] at ey
    cases ey
    have s4 := oM.new hT (Ex.new hT) (upd_same (o := .tup [.int (i : Nat), u]))
    exact ⟨_, _, numbered_at g, s4, .tup (st_of upd_same) (.cons (.int _) (.cons (dp_ex (e1.trans s4.ex) ky) .nil))⟩
theorem wd_enumL {K : PySem.W.Frag} {π : Option Pn} {N : Hp} {a : Addr} {us : List V} {xs : List PyData} (hs : SqL K N a us) (hd : DaAll K N us xs) : WalkD K π (Ite K a) (numbered xs) N := by
  have len := dps_len hd
  refine ⟨fun i M H e1 oM hi => ?_, fun M H e1 oM => ?_, fun i M H x H' e1 oM hi hy => ?_⟩
  · rw [numbered_len] at hi
    obtain ⟨y, ey, _⟩ := dps_get hd (List.getElem?_eq_getElem hi)
    exact ⟨us, y, ex_l (e1.trans oM.ex) hs, ey⟩
  · exact ⟨us, ex_l (e1.trans oM.ex) hs, by rw [len, numbered_len]; exact Nat.le_refl _⟩
  · rw [numbered_len] at hi
    obtain ⟨T, u, rfl, hT, rfl, hx⟩ := hy
    have z := hx us (ex_l (e1.trans oM.ex) hs)
    have g := List.getElem?_eq_getElem hi
    obtain ⟨y, ey, ky⟩ := dps_get hd g
    rw [z] at ey
    cases ey
    have s4 := oM.new hT (Ex.new hT) (upd_same (o := .tup [.int (i : Nat), u]))
    exact ⟨_, _, numbered_at g, s4, .tup (st_of upd_same) (.cons (.int _) (.cons (dp_ex (e1.trans s4.ex) ky) .nil))⟩
theorem wd_zipT {K : PySem.W.Frag} {π : Option Pn} {N : Hp} {a b : Addr} {us ws : List V} {xs ys : List PyData} (hs : SqT K N a us) (hd : DaAll K N us xs) (ht : SqT K N b ws) (he : DaAll K N ws ys) : WalkD K π (RZ.ItzT K a b) (pairs xs ys) N := by
  have len : (pairs xs ys).length = min xs.length ys.length := by simp [pairs]
  have l1 := dps_len hd
  have l2 := dps_len he
  refine ⟨fun i M H e1 oM hi => ?_, fun M H e1 oM => ?_, fun i M H x H' e1 oM hi hy => ?_⟩
  · obtain ⟨x, ex, _⟩ := dps_get hd (List.getElem?_eq_getElem (show i < xs.length by omega))
    obtain ⟨y, ey, _⟩ := dps_get he (List.getElem?_eq_getElem (show i < ys.length by omega))
    exact ⟨us, ws, x, y, ex_t (e1.trans oM.ex) hs, ex_t (e1.trans oM.ex) ht, ex, ey⟩
  · exact ⟨us, ws, ex_t (e1.trans oM.ex) hs, ex_t (e1.trans oM.ex) ht, by omega⟩
  · obtain ⟨T, u, w, rfl, hT, rfl, hx, hy⟩ := hy
    have z1 := hx us (ex_t (e1.trans oM.ex) hs)
    have z2 := hy ws (ex_t (e1.trans oM.ex) ht)
    have g1 := List.getElem?_eq_getElem (show i < xs.length by omega)
    have g2 := List.getElem?_eq_getElem (show i < ys.length by omega)
    obtain ⟨x, ex, kx⟩ := dps_get hd g1
    obtain ⟨y, ey, ky⟩ := dps_get he g2
    rw [z1] at ex
    rw [z2] at ey
    cases ex
    cases ey
    have s4 := oM.new hT (Ex.new hT) (upd_same (o := .tup [u, w]))
    exact ⟨_, _, pairs_get g1 g2, s4, .tup (st_of upd_same) (.cons (dp_ex (e1.trans s4.ex) kx) (.cons (dp_ex (e1.trans s4.ex) ky) .nil))⟩
theorem wd_zipL {K : PySem.W.Frag} {π : Option Pn} {N : Hp} {a b : Addr} {us ws : List V} {xs ys : List PyData} (hs : SqL K N a us) (hd : DaAll K N us xs) (ht : SqL K N b ws) (he : DaAll K N ws ys) : WalkD K π (Itz K a b) (pairs xs ys) N := by
  have len : (pairs xs ys).length = min xs.length ys.length := by simp [pairs]
  have l1 := dps_len hd
  have l2 := dps_len he
  refine ⟨fun i M H e1 oM hi => ?_, fun M H e1 oM => ?_, fun i M H x H' e1 oM hi hy => ?_⟩
  · obtain ⟨x, ex, _⟩ := dps_get hd (List.getElem?_eq_getElem (show i < xs.length by omega))
    obtain ⟨y, ey, _⟩ := dps_get he (List.getElem?_eq_getElem (show i < ys.length by omega))
    exact ⟨us, ws, x, y, ex_l (e1.trans oM.ex) hs, ex_l (e1.trans oM.ex) ht, ex, ey⟩
  · exact ⟨us, ws, ex_l (e1.trans oM.ex) hs, ex_l (e1.trans oM.ex) ht, by omega⟩
  · obtain ⟨T, u, w, rfl, hT, rfl, hx, hy⟩ := hy
    have z1 := hx us (ex_l (e1.trans oM.ex) hs)
    have z2 := hy ws (ex_l (e1.trans oM.ex) ht)
    have g1 := List.getElem?_eq_getElem (show i < xs.length by omega)
    have g2 := List.getElem?_eq_getElem (show i < ys.length by omega)
    obtain ⟨x, ex, kx⟩ := dps_get hd g1
    obtain ⟨y, ey, ky⟩ := dps_get he g2
    rw [z1] at ex
    rw [z2] at ey
    cases ex
    cases ey
    have s4 := oM.new hT (Ex.new hT) (upd_same (o := .tup [u, w]))
    exact ⟨_, _, pairs_get g1 g2, s4, .tup (st_of upd_same) (.cons (dp_ex (e1.trans s4.ex) kx) (.cons (dp_ex (e1.trans s4.ex) ky) .nil))⟩
def iMax (X : Cx) (tg e : Expr) : TI := fun σ H R => ∀ pins s, Inv X pins σ H s → wpAny (model X.prog X.w) X.A (eval e X.env) (fun v s1 => wpAny (model X.prog X.w) X.A (pyIter v) (PIE X pins σ tg R) X.xe s1) X.xe s
theorem piMax {X : Cx} {tg e : Expr} : PI X tg e (iMax X tg e) := ⟨fun pins s σ H R I h => h pins s I⟩
theorem of_pi {tg e : Expr} {wi : TI} (h : PI X tg e wi) {σ : L2.St} {H : Hp} {R : It → Hp → Prop} (k : wi σ H R) : iMax X tg e σ H R := fun pins s I => h.run pins s σ H R I k
def RI (X : Cx) (tg e : Expr) (d : DL) : Prop := ∀ (π : Option Pen) (W : WX) (S1 : Hp) (σ : L2.St) (M H : Hp) (fm : Fm) (s : Ps) (R : It → Hp → Prop), Cnt X π W S1 σ M H fm s →
  Fin X π W σ M H (fun xs _ M' H' => ∀ J, WalkD X.K none J xs M' → R J H') (d fm s) → iMax X tg e σ H R
def iSeq (K : PySem.W.Frag) (tl : TE) : TI := fun σ H R => tl σ H fun x H1 => ∃ a, x = .ref a ∧ (((∃ xs, SqL K H1 a xs) ∧ R (Itl K a) H1) ∨ ((∃ xs, SqT K H1 a xs) ∧ R (Itt K a) H1))
theorem pi_seq {tg l : Expr} {tl : TE} (hl : PE X l tl) : PI X tg l (iSeq X.K tl) := by
  refine ⟨fun pins s σ H R I h => ?_⟩
  refine thn (hl.run pins s σ H _ I h) fun v s1 ⟨x, H1, I1, r1, q1⟩ => ?_
  obtain ⟨a, e, q1⟩ := q1
  subst e
  cases r1
  rcases q1 with ⟨⟨xs, hq⟩, q⟩ | ⟨⟨xs, hq⟩, q⟩
  · obtain ⟨its, rv, p, hz⟩ := I1.list hq
    refine wpAny_pyIter_list p.isList ?_
    refine ⟨s1.heap.objs.size, [s1.heap.objs.size], _, _, H1, rfl, I1.kept (t' := s1.toks) fun b o e => Heap.get?_push_of_some _ e, turn_list a _, ⟨_, Heap.get?_push_size _ rfl, rfl, rfl⟩, fun b hb => ?_, q⟩
    have e : b = s1.heap.objs.size := by simpa using hb
    subst e
    exact I1.fpOk (Nat.le_refl _) (I1.hok.fresh (Nat.le_refl _))
  · obtain ⟨its, rv, p, hz⟩ := I1.tuple hq
    refine wpAny_pyIter_tuple (show s1.heap.IsTuple a its.toArray from p) ?_
    refine ⟨s1.heap.objs.size, [s1.heap.objs.size], _, _, H1, rfl, I1.kept (t' := s1.toks) fun b o e => Heap.get?_push_of_some _ e, turn_tuple a _, ⟨_, Heap.get?_push_size _ rfl, rfl, rfl⟩, fun b hb => ?_, q⟩
    have e : b = s1.heap.objs.size := by simpa using hb
    subst e
    exact I1.fpOk (Nat.le_refl _) (I1.hok.fresh (Nat.le_refl _))
def asSeq : PyData → Option (List PyData)
  | .tuple xs => some xs
  | .list xs => some xs
  | _ => none
def dSeq (d : DE) : DL := fun fm => (d fm).bind fun x => Mo.of (asSeq x)
theorem i_seq {tg l : Expr} {d : DE} (h : RE X l d) : RI X tg l (dSeq d) := fun π W S1 σ M H fm s R c k => by
  refine of_pi (pi_seq (peMax l)) ?_
  refine h π W S1 σ M H fm s _ c ((fin_bind c.ok k).mono fun x s' M' H' t k v hv => ?_)
  have c1 := c.step t
  obtain ⟨z, e, k⟩ := fin_of k c1.ok
  cases x with
  | tuple xs =>
    cases e
    obtain ⟨a, vs, rfl, hs, hd⟩ := dp_tup hv
    exact ⟨a, rfl, .inr ⟨⟨vs, ex_t c1.ok.ex hs⟩, k M' H' c1.ok.step _ (wd_tup hs hd)⟩⟩
  | list xs =>
    cases e
    obtain ⟨a, vs, rfl, hs, hd⟩ := dp_lst hv
    exact ⟨a, rfl, .inl ⟨⟨vs, ex_l c1.ok.ex hs⟩, k M' H' c1.ok.step _ (wd_lst hs hd)⟩⟩
  | _ => cases e
def asR1 : List PyData → Option (List PyData)
  | [.int n] => if -(2 ^ 62) ≤ n ∧ n < 2 ^ 62 then some (upto 0 n.toNat) else none
  | _ => none
def asR2 : List PyData → Option (List PyData)
  | [.int m, .int n] => if -(2 ^ 62) ≤ m ∧ m < 2 ^ 62 ∧ -(2 ^ 62) ≤ n ∧ n < 2 ^ 62 then some (upto m (n - m).toNat) else none
  | _ => none
def asZip : List PyData → Option (List PyData)
  | [.tuple xs, .tuple ys] => some (pairs xs ys)
  | [.list xs, .list ys] => some (pairs xs ys)
  | _ => none
def asEnT : List PyData → Option (List PyData)
  | [.tuple xs] => some (numbered xs)
  | _ => none
def asEnL : List PyData → Option (List PyData)
  | [.list xs] => some (numbered xs)
  | _ => none
def dIt (g : List PyData → Option (List PyData)) (ds : DL) : DL := fun fm => (ds fm).bind fun xs => Mo.of (g xs)
theorem i_range1 {tg a : Expr} {p : Pos} {ds : DL} (hg : Gl X "range") (hm : X.mg "range" = none) (h : RL X [a] ds) (hs : starEach [a] X.env = [(false, eval a X.env)] := by rfl) : RI X tg (.Call (.Name "range" p) [a] [] pos) (dIt asR1 ds) := fun π W S1 σ M H fm s R c k => by
  refine of_pi (pi_range1 hg hm (paMax _) hs) ?_
  refine h π W S1 σ M H fm s _ c ((fin_bind c.ok k).mono fun xs s' M' H' t k vs hvs => ?_)
  have c1 := c.step t
  obtain ⟨z, e, k⟩ := fin_of k c1.ok
  unfold asR1 at e
  split at e
  · split at e
    · rename_i hb
      cases e
      obtain ⟨v, rfl, hv⟩ := dps1 hvs
      rw [dp_int hv]
      exact ⟨_, rfl, hb.1, hb.2, k M' H' c1.ok.step _ wd_range⟩
    · cases e
  · cases e
theorem i_range2 {tg a b : Expr} {p : Pos} {ds : DL} (hg : Gl X "range") (hm : X.mg "range" = none) (h : RL X [a, b] ds) (hs : starEach [a, b] X.env = [(false, eval a X.env), (false, eval b X.env)] := by rfl) (hs2 : starEach [b] X.env = [(false, eval b X.env)] := by rfl) :
    RI X tg (.Call (.Name "range" p) [a, b] [] pos) (dIt asR2 ds) := fun π W S1 σ M H fm s R c k => by
  refine of_pi (pi_range2 hg hm (paMax _) hs hs2) ?_
  refine h π W S1 σ M H fm s _ c ((fin_bind c.ok k).mono fun xs s' M' H' t k vs hvs => ?_)
  have c1 := c.step t
  obtain ⟨z, e, k⟩ := fin_of k c1.ok
  unfold asR2 at e
  split at e
  · split at e
    · rename_i hb
      cases e
      cases hvs with
      | cons h1 h2 =>
        obtain ⟨v, rfl, hv⟩ := dps1 h2
        rw [dp_int hv, dp_int h1]
        exact ⟨_, _, rfl, hb, k M' H' c1.ok.step _ wd_range⟩
    · cases e
  · cases e
theorem i_zip {e e2 : Expr} {p tpos : Pos} {elts : List Expr} {kk : Nat} {ds : DL} (hg : Gl X "zip") (hm : X.mg "zip" = none) (h : RL X [e, e2] ds)
    (hs : starEach [e, e2] X.env = (false, eval e X.env) :: starEach [e2] X.env := by rfl) (hpl : (backTo pos (starEach [e2] X.env)).any (·.1) = false := by rfl) : RI X (.Tuple elts kk tpos) (.Call (.Name "zip" p) [e, e2] [] pos) (dIt asZip ds) := fun π W S1 σ M H fm s R c k => by
  refine of_pi (RZ.pi_zipA hg hm (paMax _) hs hpl) ?_
  refine h π W S1 σ M H fm s _ c ((fin_bind c.ok k).mono fun xs s' M' H' t k vs hvs => ?_)
  have c1 := c.step t
  obtain ⟨z, e, k⟩ := fin_of k c1.ok
  specialize k M' H' c1.ok.step
  unfold asZip at e
  split at e
  · cases e
    cases hvs with
    | cons h1 h2 =>
      obtain ⟨v, rfl, hv⟩ := dps1 h2
      obtain ⟨a, us, rfl, hs, hd⟩ := dp_tup h1
      obtain ⟨b, ws, rfl, ht, he⟩ := dp_tup hv
      exact ⟨a, b, us, ws, rfl, .inr ⟨ex_t c1.ok.ex hs, ex_t c1.ok.ex ht, k _ (wd_zipT hs hd ht he)⟩⟩
  · cases e
    cases hvs with
    | cons h1 h2 =>
      obtain ⟨v, rfl, hv⟩ := dps1 h2
      obtain ⟨a, us, rfl, hs, hd⟩ := dp_lst h1
      obtain ⟨b, ws, rfl, ht, he⟩ := dp_lst hv
      exact ⟨a, b, us, ws, rfl, .inl ⟨ex_l c1.ok.ex hs, ex_l c1.ok.ex ht, k _ (wd_zipL hs hd ht he)⟩⟩
  · cases e
theorem i_enumT {e : Expr} {p tpos : Pos} {elts : List Expr} {kk : Nat} {ds : DL} (hg : Gl X "enumerate") (hm : X.mg "enumerate" = none) (h : RL X [e] ds) (hs : starEach [e] X.env = [(false, eval e X.env)] := by rfl) :
    RI X (.Tuple elts kk tpos) (.Call (.Name "enumerate" p) [e] [] pos) (dIt asEnT ds) := fun π W S1 σ M H fm s R c k => by
  refine of_pi (pi_enumT hg hm (paMax _) hs) ?_
  refine h π W S1 σ M H fm s _ c ((fin_bind c.ok k).mono fun xs s' M' H' t k vs hvs => ?_)
  have c1 := c.step t
  obtain ⟨z, e, k⟩ := fin_of k c1.ok
  specialize k M' H' c1.ok.step
  unfold asEnT at e
  split at e
  · cases e
    obtain ⟨v, rfl, hv⟩ := dps1 hvs
    obtain ⟨a, us, rfl, hs, hd⟩ := dp_tup hv
    exact ⟨a, us, rfl, ex_t c1.ok.ex hs, k _ (wd_enumT hs hd)⟩
  · cases e
theorem i_enumL {e : Expr} {p tpos : Pos} {elts : List Expr} {kk : Nat} {ds : DL} (hg : Gl X "enumerate") (hm : X.mg "enumerate" = none) (h : RL X [e] ds) (hs : starEach [e] X.env = [(false, eval e X.env)] := by rfl) :
    RI X (.Tuple elts kk tpos) (.Call (.Name "enumerate" p) [e] [] pos) (dIt asEnL ds) := fun π W S1 σ M H fm s R c k => by
  refine of_pi (pi_enum hg hm (paMax _) hs) ?_
  refine h π W S1 σ M H fm s _ c ((fin_bind c.ok k).mono fun xs s' M' H' t k vs hvs => ?_)
  have c1 := c.step t
  obtain ⟨z, e, k⟩ := fin_of k c1.ok
  specialize k M' H' c1.ok.step
  unfold asEnL at e
  split at e
  · cases e
    obtain ⟨v, rfl, hv⟩ := dps1 hvs
    obtain ⟨a, us, rfl, hs, hd⟩ := dp_lst hv
    exact ⟨a, us, rfl, ex_l c1.ok.ex hs, k _ (wd_enumL hs hd)⟩
  · cases e

/-! ### targets -/
abbrev Gt := PyData → Fm → Option Fm
/-- a frame's own lists are those of another one -/
def OwnSub (fm' : Fm) (σ' : L2.St) (fm : Fm) (σ : L2.St) : Prop := ∀ (i : Nat) (xs : List PyData), fm'[i]? = some (.own xs) → fm[i]? = some (.own xs) ∧ σ'[i]? = σ[i]?
theorem OwnSub.refl {fm : Fm} {σ : L2.St} : OwnSub fm σ fm σ := fun i xs h => ⟨h, rfl⟩
theorem OwnSub.trans {f1 f2 f3 : Fm} {s1 s2 s3 : L2.St} (a : OwnSub f1 s1 f2 s2) (b : OwnSub f2 s2 f3 s3) : OwnSub f1 s1 f3 s3 := fun i xs h => by
  obtain ⟨h1, h2⟩ := a i xs h
  obtain ⟨h3, h4⟩ := b i xs h1
  exact ⟨h3, h2.trans h4⟩
theorem OwnSub.set {fm : Fm} {σ : L2.St} {i : Nat} {x : Sl} {v : Option V} (hx : ∀ xs, x ≠ .own xs) : OwnSub (fm.set i x) (σ.set i v) fm σ := fun j xs h => by
  by_cases hj : i = j
  · subst hj
    have hl : i < fm.length := by
      have := (List.getElem?_eq_some_iff.mp h).1
      rw [List.length_set] at this
      exact this
    rw [List.getElem?_set_self hl] at h
    exact absurd (Option.some.inj h) (hx xs)
  · rw [List.getElem?_set_ne hj] at h ⊢
    exact ⟨h, rfl⟩
/-- a target's reading, by data; js: the slots that it writes -/
structure TgOk (K : PySem.W.Frag) (gt : TG) (js : List Nat) (g : Gt) : Prop where
  run : ∀ (π : Option Pen) (S1 : Hp) (x : V) (d : PyData) (M H : Hp) (σ : L2.St) (fm fm' : Fm) (Q : L2.St → Hp → Prop), Da K M x d → Ex M H → FmOk K π S1 σ M H fm → g d fm = some fm' →
    (∀ σ', FmOk K π S1 σ' M H fm' → (∀ vs : List Nat, (∀ j ∈ js, j ∈ vs) → wipe σ' vs = wipe σ vs) → OwnSub fm' σ' fm σ → Q σ' H) → gt x σ H Q
theorem wipe_set {σ : L2.St} {j : Nat} {v : Option V} : ∀ {vs : List Nat}, j ∈ vs → wipe (σ.set j v) vs = wipe σ vs
  | w :: vs, h => by
    unfold wipe
    by_cases hj : j ∈ vs
    · rw [wipe_set hj]
    · have e : j = w := by
        rcases List.mem_cons.mp h with e | h
        · exact e
        · exact absurd h hj
      subst e
      have z : ∀ (us : List Nat) (τ : L2.St), j ∉ us → (wipe (τ.set j v) us) = (wipe τ us).set j v := fun us => by
        induction us with
        | nil => intro τ _; rfl
        | cons u us ih =>
          intro τ hn
          unfold wipe
          rw [ih τ (fun z => hn (List.mem_cons_of_mem _ z)), List.set_comm _ _ (fun z => hn (by rw [z]; exact List.mem_cons_self))]
      rw [z vs σ hj, List.set_set]
def gtN (j : Nat) : Gt := fun d fm => some (fm.set j (.d d))
def gtNs : List Nat → List PyData → Fm → Option Fm
  | [], [], fm => some fm
  | j :: js, d :: ds, fm => gtNs js ds (fm.set j (.d d))
  | _, _, _ => none
def gtT (js : List Nat) : Gt := fun d fm => match d with
  | .tuple ds => gtNs js ds fm
  | _ => none
theorem tg_n {K : PySem.W.Frag} (j : Nat) : TgOk K (gName j) [j] (gtN j) := ⟨fun π S1 x d M H σ fm fm' Q hx e f eg q => by
  cases eg
  exact q _ (f.set hx) (fun vs h => wipe_set (h j List.mem_cons_self)) (OwnSub.set fun xs z => by cases z)⟩
def gNames : List Nat → TGs
  | [] => gNil
  | j :: js => gCons (gName j) (gNames js)
theorem gNames_ok {K : PySem.W.Frag} {π : Option Pen} {S1 M H : Hp} : ∀ {js : List Nat} {ds : List PyData} {vs : List V} {σ : L2.St} {fm fm' : Fm} {Q : L2.St → Hp → Prop}, DaAll K M vs ds → FmOk K π S1 σ M H fm → gtNs js ds fm = some fm' →
    (∀ σ', FmOk K π S1 σ' M H fm' → (∀ ws : List Nat, (∀ j ∈ js, j ∈ ws) → wipe σ' ws = wipe σ ws) → OwnSub fm' σ' fm σ → Q σ' H) → gNames js vs σ H Q
  | [], [], vs, σ, fm, fm', Q, hd, f, e, q => by
    cases hd
    cases e
    exact ⟨rfl, q σ f (fun ws _ => rfl) OwnSub.refl⟩
  | j :: js, d :: ds, vs, σ, fm, fm', Q, hd, f, e, q => by
    cases hd with
    | @cons v vs _ _ h1 h2 =>
      refine ⟨v, vs, rfl, gNames_ok (js := js) h2 (f.set h1) e fun σ' f' w b => q σ' f' (fun ws hw => ?_) (b.trans (OwnSub.set fun xs z => by cases z))⟩
      rw [w ws fun i hi => hw i (List.mem_cons_of_mem _ hi)]
      exact wipe_set (hw j List.mem_cons_self)
  | [], _ :: _, _, _, _, _, _, _, _, e, _ => by cases e
  | _ :: _, [], _, _, _, _, _, _, _, e, _ => by cases e
theorem gtNs_len : ∀ {js : List Nat} {ds : List PyData} {fm fm' : Fm}, gtNs js ds fm = some fm' → ds.length = js.length
  | [], [], _, _, _ => rfl
  | j :: js, d :: ds, fm, fm', e => by rw [List.length_cons, List.length_cons, gtNs_len (js := js) e]
  | [], _ :: _, _, _, e => by cases e
  | _ :: _, [], _, _, e => by cases e
theorem tg_t {K : PySem.W.Frag} (js : List Nat) : TgOk K (gTup K js.length (gNames js)) js (gtT js) := ⟨fun π S1 x d M H σ fm fm' Q hx e f eg q => by
  cases d with
  | tuple ds =>
    obtain ⟨a, vs, rfl, hs, hd⟩ := dp_tup hx
    exact ⟨a, vs, rfl, ex_t e hs, by rw [dps_len hd]; exact gtNs_len eg, gNames_ok hd f eg q⟩
  | _ => cases eg⟩

/-! ### comprehensions -/
namespace Mo
def nox {α : Type} (x : Mo α) : Mo α := fun s => match x s with
  | .ok a s' => .ok a s'
  | _ => .bad
end Mo
def wipeF (fm : Fm) : List Nat → Fm
  | [] => fm
  | v :: vs => (wipeF fm vs).set v .no
def lcGo (g : Gt) (t : DT) (e : DE) (fm : Fm) : List PyData → Mo (List PyData)
  | [] => Mo.pure []
  | x :: xs => (Mo.of (g x fm)).bind fun f1 => (t f1).nox.bind fun b => match b with
    | true => (e f1).nox.bind fun y => (lcGo g t e fm xs).bind fun ys => Mo.pure (y :: ys)
    | false => lcGo g t e fm xs
def dLcL (di : DL) (g : Gt) (vs : List Nat) (t : DT) (e : DE) : DL := fun fm => (di fm).bind fun xs => (Mo.of (few 40000 xs ())).bind fun _ => (lcGo g t e (wipeF fm vs) xs).nox
def dLc (di : DL) (g : Gt) (vs : List Nat) (t : DT) (e : DE) : DE := fun fm => (dLcL di g vs t e fm).bind fun ys => Mo.pure (.list ys)
end Rf

set_option maxRecDepth 100000
set_option maxHeartbeats 4000000
/-! comprehensions -/
namespace Rf
open PySem PySem.Spec PyProof.Rows L2 Gd Dt Dl Ee Sd
open Evl (Ex Ex.refl Ex.trans Ex.new ex_l ex_t sq_of st_of fresh_back)
variable {X : Cx} {pos : Pos}
section
variable {K : PySem.W.Frag} {π : Option Pen} {S1 M H M0 H0 : Hp} {σ : L2.St} {fm : Fm} {s s0 : Ps}
theorem FmOk.unset (h : FmOk K π S1 σ M H fm) {i : Nat} {v : Option V} : FmOk K π S1 (σ.set i v) M H (fm.set i .no) := by
  refine ⟨by rw [List.length_set, List.length_set]; exact h.len, fun j y e => ?_, fun j k xs ys l h1 h2 h3 h4 => ?_⟩
  · by_cases hj : i = j
    · subst hj
      have hl : i < fm.length := by
        have := (List.getElem?_eq_some_iff.mp e).1
        rw [List.length_set] at this
        exact this
      rw [List.getElem?_set_self hl] at e
      cases e
      exact ⟨v, List.getElem?_set_self (Nat.lt_of_lt_of_le hl h.len), trivial⟩
    · rw [List.getElem?_set_ne hj] at e ⊢
      exact h.at_ j y e
  · have hj : i ≠ j := fun z => by
      subst z
      have hl : i < fm.length := by
        have := (List.getElem?_eq_some_iff.mp h1).1
        rw [List.length_set] at this
        exact this
      rw [List.getElem?_set_self hl] at h1
      cases h1
    have hk : i ≠ k := fun z => by
      subst z
      have hl : i < fm.length := by
        have := (List.getElem?_eq_some_iff.mp h2).1
        rw [List.length_set] at this
        exact this
      rw [List.getElem?_set_self hl] at h2
      cases h2
    rw [List.getElem?_set_ne hj] at h1 h3
    rw [List.getElem?_set_ne hk] at h2 h4
    exact h.apart j k xs ys l h1 h2 h3 h4
theorem FmOk.wipe (h : FmOk K π S1 σ M H fm) : ∀ vs : List Nat, FmOk K π S1 (wipe σ vs) M H (wipeF fm vs)
  | [] => h
  | v :: vs => (FmOk.wipe h vs).unset
theorem ownSub_wipe {σ : L2.St} {fm : Fm} : ∀ vs : List Nat, OwnSub (wipeF fm vs) (L2.wipe σ vs) fm σ
  | [] => OwnSub.refl
  | v :: vs => (OwnSub.set fun xs z => by cases z).trans (ownSub_wipe vs)
/-- an object that the walk's beginning does not know may change -/
theorem Step.mut {l : Addr} {ob : HO} (t : Step π s M0 H0 M H) (o : Ok K π s0 M0 H0) (h1 : H0 l = none) (hM : M l = none) : Step π s M0 H0 M (upd H l ob) := by
  have h2 : ∀ a u, H0 a = some u → a ≠ l := fun a u e z => by rw [z, h1] at e; cases e
  refine ⟨t.ex, t.gr, fun a u e => ?_, fun a u n e => ?_, fun q hq => ?_⟩
  · rw [upd_ne (fun z => by rw [z, hM] at e; cases e)]
    exact t.ex2 a u e
  · rw [upd_ne (h2 a u e)]
    exact t.off a u n e
  · rw [upd_ne (h2 _ _ (o.pen q hq).2.1)]
    exact t.pen q hq
/-- what is nothing now was nothing ahead -/
theorem Step.young {l : Addr} (t : Step π s M0 H0 M H) (o : Ok K π s0 M0 H0) (h : H l = none) : H0 l = none := by
  cases e : H0 l with
  | none => rfl
  | some ob =>
    by_cases hp : ∃ q, π = some q ∧ l = q.p
    · obtain ⟨q, hq, rfl⟩ := hp
      rw [t.pen q hq] at h
      cases h
    · rw [t.off l ob (fun q hq ex => hp ⟨q, hq, ex⟩) e] at h
      cases h
/-- an object of ours is from now on read alone -/
theorem Step.freeze {l : Addr} {ob : HO} (t : Step π s M0 H0 M H) (h1 : H0 l = none) (hM : M l = none) (hl : H l = some ob) : Step π s M0 H0 (upd M l ob) H := by
  refine ⟨t.ex.trans (Ex.new hM), fun a ha => ?_, fun a u ha => ?_, t.off, t.pen⟩
  · by_cases ea : a = l
    · subst ea
      exact .inr h1
    · rw [upd_ne ea] at ha
      exact t.gr a ha
  · by_cases ea : a = l
    · subst ea
      rw [upd_same] at ha
      cases ha
      exact hl
    · rw [upd_ne ea] at ha
      exact t.ex2 a u ha
end
theorem wipe_in {σ : L2.St} {ws : List Nat} : ∀ {vs : List Nat}, (∀ j ∈ vs, j ∈ ws) → wipe (wipe σ vs) ws = wipe σ ws
  | [], _ => rfl
  | v :: vs, h => by
    show wipe ((wipe σ vs).set v none) ws = _
    rw [wipe_set (h v List.mem_cons_self), wipe_in fun j hj => h j (List.mem_cons_of_mem _ hj)]
/-! ### a clause's tests -/
def qMax (X : Cx) (ifs : List Expr) : TT := fun σ H Q => ∃ tt, PTs X ifs tt ∧ tt σ H Q
theorem ptsMax {ifs : List Expr} : PTs X ifs (qMax X ifs) := ⟨fun pins s σ H Q I h => by
  obtain ⟨tt, h1, h2⟩ := h
  exact h1.run pins s σ H Q I h2⟩
def RC (X : Cx) (ifs : List Expr) (d : DT) : Prop := ∀ (π : Option Pen) (W : WX) (S1 : Hp) (σ : L2.St) (M H : Hp) (fm : Fm) (s : Ps) (Q : Bool → Hp → Prop), Cnt X π W S1 σ M H fm s →
  Fin X π W σ M H (fun x _ _ H' => Q x H') (d fm s) → qMax X ifs σ H Q
def dYes : DT := fun _ => Mo.pure true
theorem rc_nil : RC X [] dYes := fun π W S1 σ M H fm s Q c k => ⟨tYes, pts_nil, k.ok_ c.ok⟩
theorem rc_one {e : Expr} {d : DT} (h : RT X e d) : RC X [e] d := fun π W S1 σ M H fm s Q c k => ⟨tMax X e, pts_one (ptMax e), h π W S1 σ M H fm s Q c k⟩
/-! ### the walk's turns -/
theorem nox_ok {α : Type} {x : Mo α} {s s' : Ps} {a : α} (h : x.nox s = .ok a s') : x s = .ok a s' := by
  unfold Mo.nox at h
  cases e : x s with
  | ok b s2 => rw [e] at h; exact h
  | exc c ds s2 => rw [e] at h; cases h
  | bad => rw [e] at h; cases h
theorem bind_ok {α β : Type} {x : Mo α} {f : α → Mo β} {s s' : Ps} {b : β} (h : x.bind f s = .ok b s') : ∃ a s1, x s = .ok a s1 ∧ f a s1 = .ok b s' := by
  unfold Mo.bind at h
  cases e : x s with
  | ok a s1 => rw [e] at h; exact ⟨a, s1, rfl, h⟩
  | exc c ds s2 => rw [e] at h; cases h
  | bad => rw [e] at h; cases h
theorem of_ok {α : Type} {x : Option α} {s s' : Ps} {a : α} (h : Mo.of x s = .ok a s') : x = some a ∧ s' = s := by
  cases x with
  | none => cases h
  | some b => cases h; exact ⟨rfl, rfl⟩
theorem lcGo_cons {g : Gt} {t : DT} {e : DE} {fm : Fm} {x : PyData} {xs ys : List PyData} {s sL : Ps} (h : lcGo g t e fm (x :: xs) s = .ok ys sL) :
    ∃ f1 b s2, g x fm = some f1 ∧ t f1 s = .ok b s2 ∧ (b = true → ∃ y s3 zs, e f1 s2 = .ok y s3 ∧ lcGo g t e fm xs s3 = .ok zs sL ∧ ys = y :: zs) ∧ (b = false → lcGo g t e fm xs s2 = .ok ys sL) := by
  unfold lcGo at h
  obtain ⟨f1, s1, h1, hA⟩ := bind_ok h
  have hz := of_ok h1
  rw [hz.2] at hA
  obtain ⟨b, s2, h2, hB⟩ := bind_ok hA
  refine ⟨f1, b, s2, hz.1, nox_ok h2, fun e => ?_, fun e => ?_⟩
  · subst e
    obtain ⟨y, s3, h3, hC⟩ := bind_ok hB
    obtain ⟨zs, s4, h4, hD⟩ := bind_ok hC
    cases hD
    exact ⟨y, s3, zs, nox_ok h3, h4, rfl⟩
  · subst e
    exact hB
theorem fin_nox {π : Option Pen} {W : WX} {σ : L2.St} {M H : Hp} {α : Type} {x : Mo α} {k : α → Ps → Hp → Hp → Prop} {s : Ps} (h : Fin X π W σ M H k (x.nox s)) : ∃ a s', x s = .ok a s' ∧ ∀ M' H', Step π s' M H M' H' → k a s' M' H' := by
  unfold Mo.nox at h
  cases e : x s with
  | ok a s' => rw [e] at h; exact ⟨a, s', rfl, h⟩
  | exc c ds s' => rw [e] at h; exact h.elim
  | bad => rw [e] at h; exact h.elim
def W0 : WX := fun _ _ _ _ => False
def ttB (X : Cx) (scope : Scope) (ifs : List Expr) : TT := fun σ H Q => ∀ (s : Shared) (H0 : Hp) (C : Addr) (cl : List (Str × Addr)) (fp : List Addr), qMax (X.blk s H0 scope (compEnvC scope cl C X.env) fp) ifs σ H Q
def teB (X : Cx) (scope : Scope) (elt : Expr) : TE := fun σ H Q => ∀ (s : Shared) (H0 : Hp) (C : Addr) (cl : List (Str × Addr)) (fp : List Addr), eMax (X.blk s H0 scope (compEnvC scope cl C X.env) fp) elt σ H Q
theorem ptB {scope : Scope} {ifs : List Expr} (s : Shared) (H : Hp) (C : Addr) (cl : List (Str × Addr)) (fp : List Addr) : PTs (X.blk s H scope (compEnvC scope cl C X.env) fp) ifs (ttB X scope ifs) := ⟨fun pins sh σ H' Q I h => ptsMax.run pins sh σ H' Q I (h s H C cl fp)⟩
theorem peB {scope : Scope} {elt : Expr} (s : Shared) (H : Hp) (C : Addr) (cl : List (Str × Addr)) (fp : List Addr) : PE (X.blk s H scope (compEnvC scope cl C X.env) fp) elt (teB X scope elt) := ⟨fun pins sh σ H' Q I h => (peMax elt).run pins sh σ H' Q I (h s H C cl fp)⟩
theorem fin_own {π : Option Pen} {W : WX} {σ : L2.St} {M H : Hp} {x : Mo (List PyData)} {Q : VK} {s : Ps} (h : Fin X π W σ M H (fun x _ M' H' => ∀ v, Da X.K M' v x → Q v H') ((x.bind fun a => Mo.pure (PyData.list a)) s)) :
    Fin X π W σ M H (fun L _ M' H' => ∀ D accV, H D = none → M' D = none → H' D = some (.lst accV) → DaAll X.K M' accV L → Q (.ref D) H') (x s) := by
  unfold Mo.bind at h
  cases e : x s with
  | ok a s1 =>
    rw [e] at h
    exact fun M' H' t D accV h1 h2 h3 h4 => h _ _ (t.freeze h1 h2 h3) _ (.lst (sq_of upd_same) (dps_ex (Ex.new h2) h4))
  | exc c ds s1 =>
    rw [e] at h
    exact h
  | bad =>
    rw [e] at h
    exact h
theorem lc_run {elt tg iter : Expr} {ifs : List Expr} {scope : Scope} {own : List (Str × Nat)} {gt : TG} {js : List Nat} {g : Gt} {di : DL} {dt : DT} {de : DE} (hi : RI X tg iter di) (hT : TgOk X.K gt js g) (hjs : ∀ j ∈ js, j ∈ own.map (·.2))
    (ht : ∀ (s : Shared) (H : Hp) (C : Addr) (cl : List (Str × Addr)) (fp : List Addr), RC (X.blk s H scope (compEnvC scope cl C X.env) fp) ifs dt)
    (he : ∀ (s : Shared) (H : Hp) (C : Addr) (cl : List (Str × Addr)) (fp : List Addr), RE (X.blk s H scope (compEnvC scope cl C X.env) fp) elt de)
    {π : Option Pen} {W : WX} {S1 : Hp} {σ : L2.St} {M H : Hp} {fm : Fm} {s : Ps} {Q : VK} (c : Cnt X π W S1 σ M H fm s)
    (k : Fin X π W σ M H (fun L _ M' H' => ∀ D accV, H D = none → M' D = none → H' D = some (.lst accV) → DaAll X.K M' accV L → Q (.ref D) H') (dLcL di g (own.map (·.2)) dt de fm s)) :
    tLc (iMax X tg iter) gt
      (ttB X scope ifs)
      (teB X scope elt) (own.map (·.2)) σ H Q := by
  refine hi π W S1 σ M H fm s _ c ((fin_bind c.ok k).mono fun xs s' N H2 t k J wk D hD => ?_)
  have c1 := c.step t
  obtain ⟨_, efew, k⟩ := fin_of (fin_bind c1.ok k) c1.ok
  have hlen := (few_of efew).1
  specialize k N H2 c1.ok.step
  obtain ⟨L, sL, eL, kf⟩ := fin_nox k
  have nD : N D = none := fresh_back c1.ok.ex hD
  have hD0 : H D = none := t.young c.ok hD
  let Inv := fun (i : Nat) (H : Hp) => ∃ (M : Hp) (acc : List PyData) (accV : List V) (si : Ps) (ys : List PyData), M D = none ∧ Step π si N H2 M H ∧ H D = some (.lst accV) ∧ DaAll X.K M accV acc ∧ lcGo g dt de (wipeF fm (own.map (·.2))) (xs.drop i) si = .ok ys sL ∧ acc ++ ys = L ∧ acc.length ≤ i
  refine ⟨fun i m H => m = xs.length - i ∧ i ≤ xs.length ∧ Inv i H, ⟨xs.length, by simp, Nat.zero_le _, ?_⟩, ?_⟩
  · exact ⟨N, [], [], s', L, nD, c1.ok.step.mut c1.ok hD nD, upd_same, .nil, eL, rfl, Nat.le_refl _⟩
  rintro i m H ⟨rfl, hi', M, acc, accV, si, ys, mD, sM, hDH, hacc, eG, eA, hla⟩
  have oM := sM.ok c1.ok
  by_cases hlt : i < xs.length
  · refine .inr ⟨wk.go i M H sM.ex oM.none hlt, Inv (i + 1), fun H' p' => ⟨xs.length - (i + 1), by omega, rfl, hlt, p'⟩, fun x H' hy => ?_⟩
    obtain ⟨M', d, ed, s1, kd⟩ := wk.yld i M H x H' sM.ex oM.none hlt hy
    have s1 := Step.of_none oM s1
    have o1 := s1.ok oM
    have neD : ∀ q, π = some q → D ≠ q.p := fun q hq z => by
      rw [z] at hD
      rw [(c1.ok.pen q hq).2.1] at hD
      cases hD
    have m1D := s1.out mD (by rw [hDH]; exact fun z => by cases z)
    have h1D : H' D = some (.lst accV) := s1.off _ _ neD hDH
    have dropE : xs.drop i = d :: xs.drop (i + 1) := by
      rw [List.drop_eq_getElem_cons hlt]
      have := List.getElem?_eq_getElem hlt
      rw [ed] at this
      rw [Option.some.inj this]
    rw [dropE] at eG
    obtain ⟨f1, b, s2, eg, et, hT1, hF1⟩ := lcGo_cons eG
    have fW := ((c1.fm.step sM).step s1).wipe (own.map (·.2))
    refine hT.run π S1 x d M' H' _ _ f1 _ kd o1.ex fW eg fun σ' f' wz _ => ⟨(wz _ hjs).trans (wipe_in fun j hj => hj), fun sh Hz C cl fp => ?_⟩
    refine ht sh Hz C cl fp π W0 S1 σ' M' H' f1 si _ ⟨takes0, o1, f'⟩ ?_
    rw [et]
    intro M2 H3 t2
    have o2 := t2.ok o1
    have m2D := t2.out m1D (by rw [h1D]; exact fun z => by cases z)
    have h2D : H3 D = some (.lst accV) := t2.off _ _ neD h1D
    cases b with
    | false =>
      show Inv (i + 1) H3
      exact ⟨M2, acc, accV, s2, ys, m2D, (sM.trans s1 c1.ok).trans t2 c1.ok, h2D, dps_ex (s1.ex.trans t2.ex) hacc, hF1 rfl, eA, by omega⟩
    | true =>
      obtain ⟨y, s3, zs, ey, ez, eq⟩ := hT1 rfl
      rw [if_pos rfl]
      intro sh Hz C cl fp
      refine he sh Hz C cl fp π W0 S1 σ' M2 H3 f1 s2 _ ⟨takes0, o2, f'.step t2⟩ ?_
      rw [ey]
      intro M3 H4 t3 yv ky
      have m3D := t3.out m2D (by rw [h2D]; exact fun z => by cases z)
      have h3D : H4 D = some (.lst accV) := t3.off _ _ neD h2D
      have S := ((sM.trans s1 c1.ok).trans t2 c1.ok).trans t3 c1.ok
      have hl := dps_len hacc
      refine ⟨accV, h3D, Evl.sz_lt (by omega), M3, acc ++ [y], accV ++ [yv], s3, zs, m3D, S.mut c1.ok hD m3D, upd_same, ?_, ez, by rw [← eA, eq, List.append_assoc]; rfl, by rw [List.length_append, List.length_singleton]; omega⟩
      exact dps_app (dps_ex (s1.ex.trans (t2.ex.trans t3.ex)) hacc) (.cons ky .nil)
  · have e : i = xs.length := by omega
    subst e
    refine .inl ⟨wk.stop M H sM.ex oM.none, ?_⟩
    rw [List.drop_length] at eG
    have eG2 : ys = [] ∧ si = sL := by cases eG; exact ⟨rfl, rfl⟩
    obtain ⟨rfl, rfl⟩ := eG2
    rw [List.append_nil] at eA
    subst eA
    exact kf _ _ sM D accV hD0 mD hDH hacc


theorem r_lc {elt tg iter : Expr} {ifs : List Expr} {scope : Scope} {own : List (Str × Nat)} {gt : TG} {js : List Nat} {g : Gt} {di : DL} {dt : DT} {de : DE} (hc : X.calm = true) (hN : X.N.Nodup) (hi : RI X tg iter di) (ok : BlkOk X.N X.env.scope scope own)
    (hg : ∀ (s : Shared) (H : Hp) (C : Addr) (cl : List (Str × Addr)) (fp : List Addr), PG (X.blk s H scope (compEnvC scope cl C X.env) fp) tg gt) (hT : TgOk X.K gt js g) (hjs : ∀ j ∈ js, j ∈ own.map (·.2))
    (ht : ∀ (s : Shared) (H : Hp) (C : Addr) (cl : List (Str × Addr)) (fp : List Addr), RC (X.blk s H scope (compEnvC scope cl C X.env) fp) ifs dt)
    (he : ∀ (s : Shared) (H : Hp) (C : Addr) (cl : List (Str × Addr)) (fp : List Addr), RE (X.blk s H scope (compEnvC scope cl C X.env) fp) elt de) (hs : ∀ x, foldedSetIterable iter X.env x = pure x := by intro _; rfl) :
    RE X (.ListComp elt [⟨tg, iter, ifs, 0⟩] scope pos) (dLc di g (own.map (·.2)) dt de) := fun π W S1 σ M H fm s Q c k =>
  of_pe (pe_lc hc hN piMax ok hg ptB peB hs)
    (lc_run hi hT hjs ht he c (fin_own k))
end Rf

set_option maxRecDepth 100000
set_option maxHeartbeats 4000000
/-! statements -/
namespace Rf
open PySem PySem.Spec PyProof.Rows L2 Gd Dt Dl Ee Sd
open Evl (Ex Ex.refl Ex.trans Ex.new ex_l ex_t sq_of st_of fresh_back)
variable {X : Cx} {pos : Pos}
abbrev DS := Fm → Mo Out
structure CntS (X : Cx) (π : Option Pen) (W : WX) (S0 S1 : Hp) (s0 : Ps) : Prop where
  tk : Takes X W
  any : ∀ c d σ σ' H, W c d σ H → W c d σ' H
  ok : Ok X.K π s0 S0 S1
structure StS (K : PySem.W.Frag) (π : Option Pen) (S0 S1 : Hp) (s : Ps) (σ : L2.St) (M H : Hp) (fm : Fm) : Prop where
  st : Step π s S0 S1 M H
  fm : FmOk K π S1 σ M H fm
def FinS (X : Cx) (π : Option Pen) (W : WX) (S0 S1 Mc : Hp) (D : Ends) : Rn Out → Prop
  | .ok (.nx f) s' => ∀ σ' M' H', Ex Mc M' → StS X.K π S0 S1 s' σ' M' H' f → D.nx σ' H'
  | .ok (.bk f) s' => ∀ σ' M' H', Ex Mc M' → StS X.K π S0 S1 s' σ' M' H' f → D.bk σ' H'
  | .ok (.ct f) s' => ∀ σ' M' H', Ex Mc M' → StS X.K π S0 S1 s' σ' M' H' f → D.ct σ' H'
  | .ok (.rt x) s' => ∀ v M' H', Step π s' S0 S1 M' H' → Da X.K M' v x → D.rt v H'
  | .exc c ds s' => ∀ cls dd σ' M' H', Step π s' S0 S1 M' H' → ExRep X.mg X.K c ds cls dd M' H' → W cls dd σ' H'
  | .bad => False
def RS (X : Cx) (st : Stmt) (d : DS) : Prop := ∀ (π : Option Pen) (W : WX) (S0 S1 : Hp) (s0 : Ps) (σ : L2.St) (M H : Hp) (fm : Fm) (s : Ps) (D : Ends), CntS X π W S0 S1 s0 → StS X.K π S0 S1 s σ M H fm →
  FinS X π W S0 S1 M D (d fm s) → sMax X st D σ H
def RSs (X : Cx) (st : List Stmt) (d : DS) : Prop := ∀ (π : Option Pen) (W : WX) (S0 S1 : Hp) (s0 : Ps) (σ : L2.St) (M H : Hp) (fm : Fm) (s : Ps) (D : Ends), CntS X π W S0 S1 s0 → StS X.K π S0 S1 s σ M H fm →
  FinS X π W S0 S1 M D (d fm s) → ssMax X st D σ H
section
variable {π : Option Pen} {W : WX} {S0 S1 M H : Hp} {s0 s : Ps} {σ : L2.St} {fm : Fm} {D : Ends} {α : Type}
theorem StS.cnt (t : StS X.K π S0 S1 s σ M H fm) (c : CntS X π W S0 S1 s0) : Cnt X π W S1 σ M H fm s := ⟨c.tk, t.st.ok c.ok, t.fm⟩
theorem StS.step {s' : Ps} {M' H' : Hp} (t : StS X.K π S0 S1 s σ M H fm) (c : CntS X π W S0 S1 s0) (u : Step π s' M H M' H') : StS X.K π S0 S1 s' σ M' H' fm := ⟨t.st.trans u c.ok, t.fm.step u⟩
theorem StS.set {i : Nat} {v : V} {x : PyData} (t : StS X.K π S0 S1 s σ M H fm) (h : Da X.K M v x) : StS X.K π S0 S1 s (σ.set i (some v)) M H (fm.set i (.d x)) := ⟨t.st, t.fm.set h⟩
/-- an expression's run within a statement -/
theorem FinS.up {Mc Md : Hp} {r : Rn Out} (e : Ex Mc Md) (h : FinS X π W S0 S1 Mc D r) : FinS X π W S0 S1 Md D r := by
  cases r with
  | ok o s' =>
    cases o with
    | nx f => exact fun σ' M' H' e' t => h σ' M' H' (e.trans e') t
    | bk f => exact fun σ' M' H' e' t => h σ' M' H' (e.trans e') t
    | ct f => exact fun σ' M' H' e' t => h σ' M' H' (e.trans e') t
    | rt x => exact h
  | exc c ds s' => exact h
  | bad => exact h
theorem fins {x : Mo α} {f : α → Mo Out} (c : CntS X π W S0 S1 s0) (t : StS X.K π S0 S1 s σ M H fm) (h : FinS X π W S0 S1 M D (x.bind f s)) : Fin X π W σ M H (fun a s' M' _ => FinS X π W S0 S1 M' D (f a s')) (x s) := by
  unfold Mo.bind at h
  cases e : x s with
  | ok a s1 => rw [e] at h; exact fun _ _ u => h.up u.ex
  | exc c' ds s1 => rw [e] at h; exact fun cls dd M' H' u r => h cls dd σ M' H' (t.st.trans u c.ok) r
  | bad => rw [e] at h; exact h
theorem fins_of {Mc : Hp} {x : Option α} {f : α → Mo Out} (h : FinS X π W S0 S1 Mc D ((Mo.of x).bind f s)) : ∃ a, x = some a ∧ FinS X π W S0 S1 Mc D (f a s) := by
  cases x with
  | none => exact h.elim
  | some a => exact ⟨a, rfl, h⟩
end
/-! ### rows of statements -/
def dSkip : DS := fun fm => Mo.pure (.nx fm)
def dThen (d u : DS) : DS := fun fm => (d fm).bind fun o => match o with
  | .nx f => u f
  | o => Mo.pure o
theorem ss_nil : RSs X [] dSkip := fun π W S0 S1 s0 σ M H fm s D c t k => of_pss pss_nil (k σ M H (Ex.refl _) t)
theorem ss_one {st : Stmt} {d : DS} (h : RS X st d) : RSs X [st] d := fun π W S0 S1 s0 σ M H fm s D c t k => of_pss (pss_one (psMax st)) (h π W S0 S1 s0 σ M H fm s D c t k)
theorem ss_cons {st : Stmt} {rest : List Stmt} {d u : DS} (h : RS X st d) (h2 : RSs X rest u) : RSs X (st :: rest) (dThen d u) := fun π W S0 S1 s0 σ M H fm s D c t k => by
  refine of_pss (pss_cons (psMax st) (pssMax rest)) ?_
  refine h π W S0 S1 s0 σ M H fm s _ c t ?_
  unfold dThen Mo.bind at k
  cases e : d fm s with
  | ok o s' =>
    rw [e] at k
    cases o with
    | nx f => exact fun σ' M' H' e' t' => h2 π W S0 S1 s0 σ' M' H' f s' D c t' (FinS.up e' k)
    | bk f => exact k
    | ct f => exact k
    | rt x => exact k
  | exc c' ds s' => rw [e] at k; exact k
  | bad => rw [e] at k; exact k
/-! ### simple statements -/
def dSet (i : Nat) (d : DE) : DS := fun fm => (d fm).bind fun x => Mo.pure (.nx (fm.set i (.d x)))
theorem s_set {i : Nat} {x : Str} {e : Expr} {d : DE} {pos' : Pos} (hN : X.N.Nodup) (hi : X.N[i]? = some x) (hx : Loc X.env.scope x) (he : RE X e d) (hs : swapsWith e (some (.Name x pos')) pos.line X.env = pure false := by rfl)
    (hf : X.fn x = true ∨ X.env.scope.names.lookup x = some .local := by first | exact .inl rfl | exact .inr rfl | assumption) : RS X (.Assign [.Name x pos'] e pos) (dSet i d) := fun π W S0 S1 s0 σ M H fm s D c t k => by
  refine of_ps (ps_set hN hi hx (peMax e) hs hf) ?_
  exact he π W S1 σ M H fm s _ (t.cnt c) ((fins c t k).mono fun a s' M' H' u k v hv => k _ M' H' (Ex.refl _) ((t.step c u).set hv))
/-- name = [.. for ..] -/
theorem s_setLc {i : Nat} {y : Str} {py : Pos} {elt tg iter : Expr} {ifs : List Expr} {scope : Scope} {own : List (Str × Nat)} {gt : TG} {js : List Nat} {g : Gt} {di : DL} {dt : DT} {de : DE} {spos : Pos} (hc : X.calm = true) (hN : X.N.Nodup) (hy : X.N[i]? = some y) (hyl : X.env.scope.names.lookup y = some .local)
    (hsw : swapsWith (.ListComp elt [⟨tg, iter, ifs, 0⟩] scope pos) (some (.Name y py)) spos.line X.env = pure true) (hi : RI X tg iter di) (ok : BlkOk X.N X.env.scope scope own)
    (hg : ∀ (s : Shared) (H : Hp) (C : Addr) (cl : List (Str × Addr)) (fp : List Addr), PG (X.blk s H scope (compEnvC scope cl C X.env) fp) tg gt) (hT : TgOk X.K gt js g) (hjs : ∀ j ∈ js, j ∈ own.map (·.2))
    (ht : ∀ (s : Shared) (H : Hp) (C : Addr) (cl : List (Str × Addr)) (fp : List Addr), RC (X.blk s H scope (compEnvC scope cl C X.env) fp) ifs dt)
    (he : ∀ (s : Shared) (H : Hp) (C : Addr) (cl : List (Str × Addr)) (fp : List Addr), RE (X.blk s H scope (compEnvC scope cl C X.env) fp) elt de) (hs : ∀ x, foldedSetIterable iter X.env x = pure x := by intro _; rfl) :
    RS X (.Assign [.Name y py] (.ListComp elt [⟨tg, iter, ifs, 0⟩] scope pos) spos) (dSet i (dLc di g (own.map (·.2)) dt de)) := fun π W S0 S1 s0 σ M H fm s D c t k => by
  refine of_ps (ps_setLc hc hN hy hyl hsw piMax ok hg ptB peB hs) ?_
  exact lc_run hi hT hjs ht he (t.cnt c) (fin_own ((fins c t k).mono fun a s' M' H' u k v hv => k _ M' H' (Ex.refl _) ((t.step c u).set hv)))
def dAsg (g : Gt) (d : DE) : DS := fun fm => (d fm).bind fun x => (Mo.of (g x fm)).bind fun f => Mo.pure (.nx f)
theorem s_asg {tg e : Expr} {d : DE} {gt : TG} {js : List Nat} {g : Gt} (he : RE X e d) (hg : PG X tg gt) (hT : TgOk X.K gt js g) (hs : swapsWithSole [tg] e pos.line X.env = pure false := by rfl) (hw : swappedStores [tg] e X.env = pure none := by rfl)
    (h1 : (assignEach [tg] X.env).map (·.2) = [assign tg X.env] := by rfl) : RS X (.Assign [tg] e pos) (dAsg g d) := fun π W S0 S1 s0 σ M H fm s D c t k => by
  refine of_ps (ps_asg (peMax e) hg hs hw h1) ?_
  refine he π W S1 σ M H fm s _ (t.cnt c) ((fins c t k).mono fun a s' M' H' u k v hv => ?_)
  obtain ⟨f, ef, k⟩ := fins_of k
  have t1 := t.step c u
  exact hT.run π S1 v a M' H' σ fm f _ hv (t1.cnt c).ok.ex t1.fm ef fun σ' f' _ _ => k σ' M' H' (Ex.refl _) ⟨t1.st, f'⟩
def dPar (i j : Nat) (ds : DL) : DS := fun fm => (ds fm).bind fun xs => match xs with
  | [a, b] => Mo.pure (.nx ((fm.set i (.d a)).set j (.d b)))
  | _ => Mo.bad
theorem s_par {i j : Nat} {x y : Str} {a b : Expr} {ds : DL} {px py pt : Pos} {kt k2 pt2} (hc : X.calm = true) (hN : X.N.Nodup) (hi : X.N[i]? = some x) (hj : X.N[j]? = some y) (hij : i ≠ j)
    (hx : X.env.scope.names.lookup x = some .local) (hy : X.env.scope.names.lookup y = some .local) (ha : RL X [a, b] ds)
    (hw : swappedStores [.Tuple [.Name x px, .Name y py] kt pt] (.Tuple [a, b] k2 pt2) X.env = pure (some [x, y]))
    (hs : swapsWithSole [.Tuple [.Name x px, .Name y py] kt pt] (.Tuple [a, b] k2 pt2) pos.line X.env = pure false := by rfl) :
    RS X (.Assign [.Tuple [.Name x px, .Name y py] kt pt] (.Tuple [a, b] k2 pt2) pos) (dPar i j ds) := fun π W S0 S1 s0 σ M H fm s D c t k => by
  refine of_ps (ps_par hc hN hi hj hij hx hy (paMax _) hw hs) ?_
  refine ha π W S1 σ M H fm s _ (t.cnt c) ((fins c t k).mono fun a s' M' H' u k vs hvs => ?_)
  match a, hvs, k with
  | [a, b], .cons h1 (.cons h2 .nil), k => exact ⟨_, _, rfl, k _ M' H' (Ex.refl _) (((t.step c u).set h1).set h2)⟩
  | [], _, k => exact k.elim
  | [_], _, k => exact k.elim
  | _ :: _ :: _ :: _, _, k => exact k.elim
def dRet (d : DE) : DS := fun fm => (d fm).bind fun x => Mo.pure (.rt x)
theorem s_ret {e : Expr} {d : DE} (he : RE X e d) : RS X (.Return (some e) pos) (dRet d) := fun π W S0 S1 s0 σ M H fm s D c t k =>
  of_ps (ps_ret (peMax e)) (he π W S1 σ M H fm s _ (t.cnt c) ((fins c t k).mono fun a s' M' H' u k v hv => k v M' H' (t.step c u).st hv))
def dRetN : DS := fun _ => Mo.pure (.rt .none)
theorem s_retN : RS X (.Return none pos) dRetN := fun π W S0 S1 s0 σ M H fm s D c t k => of_ps ps_retN (k .non M H t.st .non)
def dDrop (d : DE) : DS := fun fm => (d fm).bind fun _ => Mo.pure (.nx fm)
theorem s_expr {e : Expr} {d : DE} (he : RE X e d) (hs : swapsWith e none pos.line X.env = pure false := by rfl) : RS X (.Expr e pos) (dDrop d) := fun π W S0 S1 s0 σ M H fm s D c t k =>
  of_ps (ps_expr (peMax e) hs) (he π W S1 σ M H fm s _ (t.cnt c) ((fins c t k).mono fun a s' M' H' u k v hv => k σ M' H' (Ex.refl _) (t.step c u)))
theorem s_pass : RS X (.Pass pos) dSkip := fun π W S0 S1 s0 σ M H fm s D c t k => of_ps ps_pass (k σ M H (Ex.refl _) t)
def dBrk : DS := fun fm => Mo.pure (.bk fm)
theorem s_brk : RS X (.Break pos) dBrk := fun π W S0 S1 s0 σ M H fm s D c t k => of_ps ps_break (k σ M H (Ex.refl _) t)
def dCnt : DS := fun fm => Mo.pure (.ct fm)
theorem s_cnt : RS X (.Continue pos) dCnt := fun π W S0 S1 s0 σ M H fm s D c t k => of_ps ps_continue (k σ M H (Ex.refl _) t)
def dIfS (t : DT) (a b : DS) : DS := fun fm => (t fm).bind fun x => match x with
  | true => a fm
  | false => b fm
theorem s_if {e : Expr} {a b : List Stmt} {dt : DT} {da db : DS} (ht : RT X e dt) (ha : RSs X a da) (hb : RSs X b db) : RS X (.If e a b pos) (dIfS dt da db) := fun π W S0 S1 s0 σ M H fm s D c t k =>
  of_ps (ps_if (ptMax e) (pssMax a) (pssMax b)) (ht π W S1 σ M H fm s _ (t.cnt c) ((fins c t k).mono fun x s' M' H' u k => by
    cases x with
    | true => exact ha π W S0 S1 s0 σ M' H' fm s' D c (t.step c u) k
    | false => exact hb π W S0 S1 s0 σ M' H' fm s' D c (t.step c u) k))
def dAug (i : Nat) (g : G2) (d : DE) : DS := fun fm => (Mo.of (slD fm[i]?)).bind fun x => (d fm).bind fun y => (Mo.of (g x y)).bind fun z => Mo.pure (.nx (fm.set i (.d z)))
def gAddI : G2
  | .int i, .int j => some (.int (i + j))
  | _, _ => none
theorem s_augI {i : Nat} {x : Str} {e : Expr} {d : DE} {pos' : Pos} (hN : X.N.Nodup) (hi : X.N[i]? = some x) (hx : Loc X.env.scope x) (he : RE X e d)
    (hf : X.fn x = true ∨ X.env.scope.names.lookup x = some .local := by first | exact .inl rfl | exact .inr rfl | assumption) : RS X (.AugAssign (.Name x pos') .Add e pos) (dAug i gAddI d) := fun π W S0 S1 s0 σ M H fm s D c t k => by
  refine of_ps (ps_aug hN hi hx (peMax e) ip_add hf) ?_
  obtain ⟨a, ea, k⟩ := fins_of k
  cases e1 : fm[i]? with
  | none => rw [e1] at ea; cases ea
  | some sl =>
    rw [e1] at ea
    cases sl with
    | d z =>
      cases ea
      obtain ⟨o, e2, v, rfl, hv⟩ := t.fm.at_ i _ e1
      refine ⟨v, e2, he π W S1 σ M H fm s _ (t.cnt c) ((fins c t k).mono fun y s' M' H' u k w hw => ?_)⟩
      obtain ⟨r, er, k⟩ := fins_of k
      unfold gAddI at er
      split at er
      · cases er
        exact ⟨_, _, dp_int hv, dp_int hw, k _ M' H' (Ex.refl _) ((t.step c u).set (.int _))⟩
      · cases er
    | _ => cases ea
/-! ### loops -/
def forGo (g : Gt) (b : DS) : List PyData → DS
  | [] => dSkip
  | x :: xs => fun fm => (Mo.of (g x fm)).bind fun f1 => (b f1).bind fun o => match o with
    | .nx f => forGo g b xs f
    | .ct f => forGo g b xs f
    | .bk f => Mo.pure (.nx f)
    | .rt x => Mo.pure (.rt x)
def dFor (di : DL) (g : Gt) (b : DS) : DS := fun fm => (di fm).bind fun xs => forGo g b xs fm
theorem s_for {tg iter : Expr} {body : List Stmt} {di : DL} {gt : TG} {js : List Nat} {g : Gt} {db : DS} (hp : PassesOwn (model X.prog X.w) X.A X.env X.xe) (hc : X.calm = true) (hi : RI X tg iter di) (hg : PG X tg gt) (hT : TgOk X.K gt js g) (hb : RSs X body db)
    (hs : ∀ x, foldedSetIterable iter X.env x = pure x := by intro _; rfl) : RS X (.For tg iter body [] pos) (dFor di g db) := fun π W S0 S1 s0 σ M H fm s D c t k => by
  refine of_ps (ps_for hp hc piMax hg (pssMax body) hs) ?_
  refine hi π W S1 σ M H fm s _ (t.cnt c) ((fins c t k).mono fun xs s' N H2 u k J wk => ?_)
  have t1 := t.step c u
  refine ⟨fun i m σ' H' => m = xs.length - i ∧ i ≤ xs.length ∧ ∃ (M' : Hp) (fi : Fm) (si : Ps), Ex N M' ∧ StS X.K π S0 S1 si σ' M' H' fi ∧ FinS X π W S0 S1 N D (forGo g db (xs.drop i) fi si), ⟨xs.length, by simp, Nat.zero_le _, N, fm, s', Ex.refl _, t1, k⟩, ?_⟩
  rintro i m σ' H' ⟨rfl, hi', M', fi, si, e1, ti, ki⟩
  have oM := ti.st.ok c.ok
  by_cases hlt : i < xs.length
  · refine .inr ⟨wk.go i M' H' e1 oM.none hlt, fun σ3 H3 => ∃ (M3 : Hp) (f3 : Fm) (s3 : Ps), Ex N M3 ∧ StS X.K π S0 S1 s3 σ3 M3 H3 f3 ∧ FinS X π W S0 S1 N D (forGo g db (xs.drop (i + 1)) f3 s3), fun σ3 H3 h => ⟨xs.length - (i + 1), by omega, rfl, hlt, h⟩, fun x H'' hy => ?_⟩
    obtain ⟨M2, d, ed, u2, kd⟩ := wk.yld i M' H' x H'' e1 oM.none hlt hy
    have u2 := Step.of_none oM u2
    have t2 := ti.step c u2
    have dropE : xs.drop i = d :: xs.drop (i + 1) := by
      rw [List.drop_eq_getElem_cons hlt]
      have := List.getElem?_eq_getElem hlt
      rw [ed] at this
      rw [Option.some.inj this]
    rw [dropE] at ki
    have ki : FinS X π W S0 S1 N D ((Mo.of (g d fi)).bind (fun f1 => (db f1).bind fun o => match o with
      | .nx f => forGo g db (xs.drop (i + 1)) f
      | .ct f => forGo g db (xs.drop (i + 1)) f
      | .bk f => Mo.pure (.nx f)
      | .rt x => Mo.pure (.rt x)) si) := ki
    obtain ⟨f1, ef, kf⟩ := fins_of ki
    refine hT.run π S1 x d M2 H'' σ' fi f1 _ kd (u2.ok oM).ex t2.fm ef fun σ2 f2 _ _ => ?_
    refine hb π W S0 S1 s0 σ2 M2 H'' f1 si _ c ⟨t2.st, f2⟩ ?_
    have ex2 : Ex N M2 := e1.trans u2.ex
    unfold Mo.bind at kf
    cases e : db f1 si with
    | ok o s3 =>
      rw [e] at kf
      cases o with
      | nx f => exact fun σ3 M3 H3 e3 t3 => ⟨M3, f, s3, ex2.trans e3, t3, kf⟩
      | ct f => exact fun σ3 M3 H3 e3 t3 => ⟨M3, f, s3, ex2.trans e3, t3, kf⟩
      | bk f => exact fun σ3 M3 H3 e3 t3 => kf σ3 M3 H3 (ex2.trans e3) t3
      | rt x => exact kf
    | exc c' ds s3 => rw [e] at kf; exact kf
    | bad => rw [e] at kf; exact kf
  · have e : i = xs.length := by omega
    subst e
    rw [List.drop_length] at ki
    exact .inl ⟨wk.stop M' H' e1 oM.none, ki σ' M' H' e1 ti⟩
end Rf

set_option maxRecDepth 100000
set_option maxHeartbeats 4000000
/-! while; lists that a def itself changes; the pen -/
namespace Rf
open PySem PySem.Spec PyProof.Rows L2 Gd Dt Dl Ee Sd
open Evl (Ex Ex.refl Ex.trans Ex.new ex_l ex_t sq_of st_of fresh_back)
variable {X : Cx} {pos : Pos}
def whGo (t : DT) (b : DS) : Nat → DS
  | 0 => fun _ => Mo.bad
  | n + 1 => fun fm => (t fm).bind fun x => match x with
    | false => Mo.pure (.nx fm)
    | true => (b fm).bind fun o => match o with
      | .nx f => whGo t b n f
      | .ct f => whGo t b n f
      | .bk f => Mo.pure (.nx f)
      | .rt x => Mo.pure (.rt x)
def dWhile (n : Nat) (t : DT) (b : DS) : DS := whGo t b n
theorem s_while (n : Nat) {e : Expr} {body : List Stmt} {dt : DT} {db : DS} (hp : PassesOwn (model X.prog X.w) X.A X.env X.xe) (ht : RT X e dt) (hb : RSs X body db) : RS X (.While e body [] pos) (dWhile n dt db) := fun π W S0 S1 s0 σ M H fm s D c t k => by
  refine of_ps (ps_while hp (ptMax e) (pssMax body)) ?_
  refine ⟨fun m σ' H' => ∃ (M' : Hp) (fi : Fm) (si : Ps), Ex M M' ∧ StS X.K π S0 S1 si σ' M' H' fi ∧ FinS X π W S0 S1 M D (whGo dt db m fi si), ⟨n, M, fm, s, Ex.refl _, t, k⟩, ?_⟩
  rintro m σ' H' ⟨M', fi, si, e1, ti, ki⟩
  cases m with
  | zero => exact ki.elim
  | succ m =>
    refine ht π W S1 σ' M' H' fi si _ (ti.cnt c) ?_
    unfold whGo at ki
    unfold Mo.bind at ki
    cases e : dt fi si with
    | bad => rw [e] at ki; exact ki
    | exc c' ds s2 => rw [e] at ki; exact fun cls dd M2 H2 u r => ki cls dd σ' M2 H2 (ti.st.trans u c.ok) r
    | ok x s2 =>
      rw [e] at ki
      intro M2 H2 u
      have t2 := ti.step c u
      have ex2 : Ex M M2 := e1.trans u.ex
      cases x with
      | false =>
        rw [if_neg Bool.false_ne_true]
        exact ki σ' M2 H2 ex2 t2
      | true =>
        rw [if_pos rfl]
        refine ⟨fun σ3 H3 => ∃ (M3 : Hp) (f3 : Fm) (s3 : Ps), Ex M M3 ∧ StS X.K π S0 S1 s3 σ3 M3 H3 f3 ∧ FinS X π W S0 S1 M D (whGo dt db m f3 s3), fun σ3 H3 h => ⟨m, Nat.lt_succ_self _, h⟩, ?_⟩
        refine hb π W S0 S1 s0 σ' M2 H2 fi s2 _ c t2 ?_
        simp only at ki
        cases eb : db fi s2 with
        | ok o s3 =>
          rw [eb] at ki
          cases o with
          | nx f => exact fun σ3 M3 H3 e3 t3 => ⟨M3, f, s3, ex2.trans e3, t3, ki⟩
          | ct f => exact fun σ3 M3 H3 e3 t3 => ⟨M3, f, s3, ex2.trans e3, t3, ki⟩
          | bk f => exact fun σ3 M3 H3 e3 t3 => ki σ3 M3 H3 (ex2.trans e3) t3
          | rt x => exact ki
        | exc c' ds s3 => rw [eb] at ki; exact ki
        | bad => rw [eb] at ki; exact ki

/-! ### lists of one's own -/
def slO : Option Sl → Option (List PyData)
  | some (.own xs) => some xs
  | _ => none
section
variable {K : PySem.W.Frag} {π : Option Pen} {S0 S1 M H : Hp} {σ : L2.St} {fm : Fm} {s : Ps}
theorem FmOk.own (h : FmOk K π S1 σ M H fm) {i : Nat} {xs : List PyData} (e : slO fm[i]? = some xs) : ∃ l vs, σ[i]? = some (some (.ref l)) ∧ H l = some (.lst vs) ∧ DaAll K M vs xs ∧ M l = none ∧ S1 l = none ∧ (∀ q, π = some q → l ≠ q.p) ∧ fm[i]? = some (.own xs) := by
  cases e1 : fm[i]? with
  | none => rw [e1] at e; cases e
  | some sl =>
    rw [e1] at e
    cases sl with
    | own ys =>
      cases e
      obtain ⟨o, e2, l, vs, rfl, h1⟩ := h.at_ i _ e1
      exact ⟨l, vs, e2, h1.1, h1.2.1, h1.2.2.1, h1.2.2.2.1, h1.2.2.2.2, rfl⟩
    | _ => cases e
/-- a new list of one's own in slot i -/
theorem FmOk.setOwn (h : FmOk K π S1 σ M H fm) {i : Nat} {l : Addr} {vs : List V} {xs : List PyData} (hl : H l = some (.lst vs)) (hd : DaAll K M vs xs) (hM : M l = none) (h1 : S1 l = none) (hq : ∀ q, π = some q → l ≠ q.p)
    (new : ∀ (j : Nat) (ys : List PyData), j ≠ i → fm[j]? = some (.own ys) → σ[j]? ≠ some (some (.ref l))) : FmOk K π S1 (σ.set i (some (.ref l))) M H (fm.set i (.own xs)) := by
  have ins : ∀ {y : Sl}, (fm.set i (.own xs))[i]? = some y → i < fm.length ∧ y = .own xs := fun {y} e => by
    have hl : i < fm.length := by
      have := (List.getElem?_eq_some_iff.mp e).1
      rw [List.length_set] at this
      exact this
    rw [List.getElem?_set_self hl] at e
    cases e
    exact ⟨hl, rfl⟩
  refine ⟨by rw [List.length_set, List.length_set]; exact h.len, fun j y e => ?_, fun j k ys zs a h2 h3 h4 h5 => ?_⟩
  · by_cases hj : i = j
    · subst hj
      obtain ⟨hi, rfl⟩ := ins e
      exact ⟨some (.ref l), List.getElem?_set_self (Nat.lt_of_lt_of_le hi h.len), l, vs, rfl, hl, hd, hM, h1, hq⟩
    · rw [List.getElem?_set_ne hj] at e ⊢
      exact h.at_ j y e
  · by_cases hj : i = j
    · by_cases hk : i = k
      · rw [← hj, ← hk]
      · subst hj
        obtain ⟨hi, _⟩ := ins h2
        rw [List.getElem?_set_self (Nat.lt_of_lt_of_le hi h.len)] at h4
        rw [List.getElem?_set_ne hk] at h3 h5
        cases h4
        exact absurd h5 (new k zs (Ne.symm hk) h3)
    · by_cases hk : i = k
      · subst hk
        obtain ⟨hi, _⟩ := ins h3
        rw [List.getElem?_set_self (Nat.lt_of_lt_of_le hi h.len)] at h5
        rw [List.getElem?_set_ne hj] at h2 h4
        cases h5
        exact absurd h4 (new j ys (Ne.symm hj) h2)
      · rw [List.getElem?_set_ne hj] at h2 h4
        rw [List.getElem?_set_ne hk] at h3 h5
        exact h.apart j k ys zs a h2 h3 h4 h5
/-- a list of one's own is changed -/
theorem FmOk.chg (h : FmOk K π S1 σ M H fm) {i : Nat} {l : Addr} {vs ws : List V} {xs ys : List PyData} (e : fm[i]? = some (.own xs)) (eσ : σ[i]? = some (some (.ref l))) (hl : H l = some (.lst vs)) (hM : M l = none) (hd : DaAll K M ws ys) :
    FmOk K π S1 σ M (upd H l (.lst ws)) (fm.set i (.own ys)) := by
  have hi := (List.getElem?_eq_some_iff.mp e).1
  refine ⟨by rw [List.length_set]; exact h.len, fun j y ej => ?_, fun j k us zs a h2 h3 h4 h5 => ?_⟩
  · by_cases hj : i = j
    · subst hj
      rw [List.getElem?_set_self hi] at ej
      cases ej
      obtain ⟨o, e2, l2, vs2, rfl, h1, h2, h3, h4, h5⟩ := h.at_ i _ e
      rw [eσ] at e2
      cases e2
      exact ⟨some (.ref l), eσ, l, ws, rfl, upd_same, hd, h3, h4, h5⟩
    · rw [List.getElem?_set_ne hj] at ej
      obtain ⟨o, e2, h2⟩ := h.at_ j y ej
      refine ⟨o, e2, ?_⟩
      cases y with
      | no => trivial
      | d x => exact h2
      | own us =>
        obtain ⟨l2, vs2, rfl, h1, h2, h3, h4, h5⟩ := h2
        have ne : l2 ≠ l := fun z => by
          subst z
          exact hj (h.apart i j xs us l2 e ej eσ e2)
        exact ⟨l2, vs2, rfl, by rw [upd_ne ne]; exact h1, h2, h3, h4, h5⟩
      | pen ns => exact h2
      | exc _ _ => trivial
  · have all : ∀ {m : Nat} {us : List PyData}, (fm.set i (.own ys))[m]? = some (.own us) → ∃ ts, fm[m]? = some (.own ts) := fun {m us} em => by
      by_cases hm : i = m
      · subst hm
        exact ⟨xs, e⟩
      · rw [List.getElem?_set_ne hm] at em
        exact ⟨us, em⟩
    obtain ⟨t1, g1⟩ := all h2
    obtain ⟨t2, g2⟩ := all h3
    exact h.apart j k t1 t2 a g1 g2 h4 h5
/-- a list of one's own is from now on read alone -/
theorem FmOk.frz (h : FmOk K π S1 σ M H fm) {i : Nat} {l : Addr} {vs : List V} {xs : List PyData} (e : fm[i]? = some (.own xs)) (eσ : σ[i]? = some (some (.ref l))) (hl : H l = some (.lst vs)) (hM : M l = none) (hd : DaAll K M vs xs) :
    FmOk K π S1 σ (upd M l (.lst vs)) H (fm.set i (.d (.list xs))) := by
  have hi := (List.getElem?_eq_some_iff.mp e).1
  have ex : Ex M (upd M l (.lst vs)) := Ex.new hM
  refine ⟨by rw [List.length_set]; exact h.len, fun j y ej => ?_, fun j k us zs a h2 h3 h4 h5 => ?_⟩
  · by_cases hj : i = j
    · subst hj
      rw [List.getElem?_set_self hi] at ej
      cases ej
      exact ⟨some (.ref l), eσ, _, rfl, .lst (sq_of upd_same) (dps_ex ex hd)⟩
    · rw [List.getElem?_set_ne hj] at ej
      obtain ⟨o, e2, h2⟩ := h.at_ j y ej
      refine ⟨o, e2, ?_⟩
      cases y with
      | no => trivial
      | d x =>
        obtain ⟨v, rfl, hv⟩ := h2
        exact ⟨v, rfl, dp_ex ex hv⟩
      | own us =>
        obtain ⟨l2, vs2, rfl, h1, h2, h3, h4, h5⟩ := h2
        have ne : l2 ≠ l := fun z => by
          subst z
          exact hj (h.apart i j xs us l2 e ej eσ e2)
        exact ⟨l2, vs2, rfl, h1, dps_ex ex h2, by rw [upd_ne ne]; exact h3, h4, h5⟩
      | pen ns => exact h2
      | exc _ _ => trivial
  · have all : ∀ {m : Nat} {us : List PyData}, (fm.set i (.d (.list xs)))[m]? = some (.own us) → fm[m]? = some (.own us) := fun {m us} em => by
      by_cases hm : i = m
      · subst hm
        rw [List.getElem?_set_self hi] at em
        cases em
      · rw [List.getElem?_set_ne hm] at em
        exact em
    exact h.apart j k us zs a (all h2) (all h3) h4 h5
theorem Step.chg {s0 : Ps} {l : Addr} {ob : HO} (t : Step π s S0 S1 M H) (o : Ok K π s0 S0 S1) (h1 : S1 l = none) (hM : M l = none) : Step π s S0 S1 M (upd H l ob) := t.mut o h1 hM
end
section
variable {π : Option Pen} {W : WX} {S0 S1 M H : Hp} {s0 s : Ps} {σ : L2.St} {fm : Fm}
/-- a new object is no list of ours -/
theorem StS.newL (t : StS X.K π S0 S1 s σ M H fm) (c : CntS X π W S0 S1 s0) {i : Nat} {p : Addr} {vs : List V} {xs : List PyData} (hp : H p = none) (hd : DaAll X.K M vs xs) : StS X.K π S0 S1 s (σ.set i (some (.ref p))) M (upd H p (.lst vs)) (fm.set i (.own xs)) := by
  have o := t.st.ok c.ok
  have hM : M p = none := fresh_back o.ex hp
  have h1 : S1 p = none := t.st.young c.ok hp
  have u : Step π s M H M (upd H p (.lst vs)) := o.more (Ex.new hp)
  refine ⟨t.st.trans u c.ok, (t.fm.step u).setOwn upd_same hd hM h1 (fun q hq z => ?_) fun j ys hj e eσ => ?_⟩
  · rw [z, (o.pen q hq).2.1] at hp
    cases hp
  · obtain ⟨o2, e2, l, ws, rfl, h2, _⟩ := t.fm.at_ j _ e
    rw [e2] at eσ
    cases eσ
    rw [h2] at hp
    cases hp
end
def dNew (i : Nat) : DS := fun fm => Mo.pure (.nx (fm.set i (.own [])))
theorem s_new {i : Nat} {x : Str} {p2 pos' : Pos} (hN : X.N.Nodup) (hi : X.N[i]? = some x) (hx : Loc X.env.scope x) (hs : swapsWith (.List [] p2) (some (.Name x pos')) pos.line X.env = pure false := by rfl)
    (hf : X.fn x = true ∨ X.env.scope.names.lookup x = some .local := by first | exact .inl rfl | exact .inr rfl | assumption) : RS X (.Assign [.Name x pos'] (.List [] p2) pos) (dNew i) := fun π W S0 S1 s0 σ M H fm s D c t k => by
  refine of_ps (ps_set hN hi hx (pe_lst pa_nil) hs hf) ?_
  exact ⟨Nat.zero_le _, fun p hp => k _ M _ (Ex.refl _) (t.newL c hp .nil)⟩
def dNewL (i : Nat) (ds : DL) : DS := fun fm => (ds fm).bind fun xs => (Mo.of (few 100000 xs ())).bind fun _ => Mo.pure (.nx (fm.set i (.own xs)))
theorem s_newL {i : Nat} {x : Str} {es : List Expr} {ds : DL} {p2 pos' : Pos} (hN : X.N.Nodup) (hi : X.N[i]? = some x) (hx : Loc X.env.scope x) (h : RL X es ds) (hs : swapsWith (.List es p2) (some (.Name x pos')) pos.line X.env = pure false := by rfl)
    (hf : X.fn x = true ∨ X.env.scope.names.lookup x = some .local := by first | exact .inl rfl | exact .inr rfl | assumption) : RS X (.Assign [.Name x pos'] (.List es p2) pos) (dNewL i ds) := fun π W S0 S1 s0 σ M H fm s D c t k => by
  refine of_ps (ps_set hN hi hx (pe_lst (paMax es)) hs hf) ?_
  refine h π W S1 σ M H fm s _ (t.cnt c) ((fins c t k).mono fun xs s' M' H' u k vs hvs => ?_)
  obtain ⟨_, ef, k⟩ := fins_of k
  exact ⟨Evl.sz_of (by rw [dps_len hvs]; exact (few_of ef).1), fun p hp => k _ M' _ (Ex.refl _) ((t.step c u).newL c hp hvs)⟩
/-- name = list + list, a new list -/
def dNewC (i : Nat) (a b : DE) : DS := fun fm => (a fm).bind fun x => (b fm).bind fun y => match x, y with
  | .list xs, .list ys => (Mo.of (few 100000 (xs ++ ys) ())).bind fun _ => Mo.pure (.nx (fm.set i (.own (xs ++ ys))))
  | _, _ => Mo.bad
theorem s_newC {i : Nat} {x : Str} {a b : Expr} {da db : DE} {p2 pos' : Pos} (hN : X.N.Nodup) (hi : X.N[i]? = some x) (hx : Loc X.env.scope x) (ha : RE X a da) (hb : RE X b db) (hs : swapsWith (.BinOp a .Add b p2) (some (.Name x pos')) pos.line X.env = pure false := by rfl)
    (hf : X.fn x = true ∨ X.env.scope.names.lookup x = some .local := by first | exact .inl rfl | exact .inr rfl | assumption) : RS X (.Assign [.Name x pos'] (.BinOp a .Add b p2) pos) (dNewC i da db) := fun π W S0 S1 s0 σ M H fm s D c t k => by
  refine of_ps (ps_set hN hi hx (pe_op op_catR (peMax a) (peMax b)) hs hf) ?_
  refine ha π W S1 σ M H fm s _ (t.cnt c) ((fins c t k).mono fun x1 s' M' H' u k v hv => ?_)
  have t1 := t.step c u
  refine hb π W S1 σ M' H' fm s' _ (t1.cnt c) ((fins c t1 k).mono fun y1 s2 M2 H2 u2 k w hw => ?_)
  have t2 := t1.step c u2
  have o2 := (t2.cnt c).ok
  cases x1 with
  | list xs =>
    cases y1 with
    | list ys =>
      obtain ⟨_, ef, k⟩ := fins_of k
      have hz := (few_of ef).1
      rw [List.length_append] at hz
      obtain ⟨p, us, rfl, h1, h2⟩ := dp_lst (dp_ex u2.ex hv)
      obtain ⟨q, ws, rfl, h3, h4⟩ := dp_lst hw
      have l1 := dps_len h2
      have l2 := dps_len h4
      exact ⟨p, q, us, ws, rfl, rfl, ex_l o2.ex h1, ex_l o2.ex h3, Evl.sz_of (by omega), fun r hr => k _ M2 _ (Ex.refl _) (t2.newL c hr (dps_app h2 h4))⟩
    | _ => exact k.elim
  | _ => exact k.elim
def dApp (i : Nat) (d : DE) : DS := fun fm => (Mo.of (slO fm[i]?)).bind fun xs => (d fm).bind fun y => (Mo.of (few 90000 xs ())).bind fun _ => Mo.pure (.nx (fm.set i (.own (xs ++ [y]))))
theorem s_app (i : Nat) {x : Str} {e : Expr} {d : DE} {p1 apos cpos : Pos} (h : RE X e d) (hN : X.N[i]? = some x := by rfl) (hv : Vis X.env.scope x := by first | exact Or.inl rfl | exact Or.inr (Or.inl rfl) | exact Or.inr (Or.inr rfl)) (hd : (x == ("__debug__" : Str)) = false := by decide)
    (hcd : (x == ("__classdict__" : Str)) = false := by decide)
    (hbase : attributeBase (.Name x p1) "append" X.env (eval (.Name x p1) X.env) = eval (.Name x p1) X.env := by rfl)
    (hfew : ((backTo cpos (starEach [e] X.env)).all (fun x => !x.1) && (backToKw cpos (keywordEach [] X.env)).all (fun x => x.1.isSome)
      && decide ([e].length + ([] : List Keyword).length + (if ([] : List Keyword).isEmpty then 0 else 1) < 30)) = true := by rfl)
    (hline : (apos.endLine == cpos.line) = true := by rfl) (hs : starEach [e] X.env = (false, eval e X.env) :: starEach [] X.env := by rfl) (hplain : (backTo cpos (starEach [] X.env)).any (·.1) = false := by rfl)
    (hsw : swapsWith (.Call (.Attribute (.Name x p1) "append" apos) [e] [] cpos) none pos.line X.env = pure false := by rfl) :
    RS X (.Expr (.Call (.Attribute (.Name x p1) "append" apos) [e] [] cpos) pos) (dApp i d) := fun π W S0 S1 s0 σ M H fm s D c t k => by
  refine of_ps (ps_expr (pe_bm PySem.F.plainAttrs_list PySem.F.slot_list_append PySem.F.type_list_append mt_append (pe_var hN hv hd hcd) (pa_cons (peMax e) pa_nil hs) hbase hfew hline hs hplain) hsw) ?_
  obtain ⟨xs, ex, k⟩ := fins_of k
  obtain ⟨l, vs, eσ, hl, hdl, hM, h1, hq, ei⟩ := t.fm.own ex
  refine ⟨_, eσ, .inl ⟨rfl, _, .inl (.inl hl)⟩, ?_⟩
  refine h π W S1 σ M H fm s _ (t.cnt c) ((fins c t k).mono fun y s' M' H' u k v hv => ?_)
  obtain ⟨_, ef, k⟩ := fins_of k
  have t1 := t.step c u
  obtain ⟨l2, vs2, eσ2, hl2, hdl2, hM2, _, _, _⟩ := t1.fm.own ex
  rw [eσ] at eσ2
  cases eσ2
  have hz := dps_len hdl2
  have hz2 := (few_of ef).1
  refine ⟨l, vs2, v, rfl, rfl, hl2, Evl.sz_lt (by omega), k σ M' _ (Ex.refl _) ⟨t1.st.chg c.ok h1 hM2, t1.fm.chg ei eσ hl2 hM2 (dps_app hdl2 (.cons hv .nil))⟩⟩
/-- a new list, as an argument of extend -/
def RF (X : Cx) (e : Expr) (d : DL) : Prop := ∀ (π : Option Pen) (W : WX) (S1 : Hp) (σ : L2.St) (M H : Hp) (fm : Fm) (s : Ps) (Q : VK), Cnt X π W S1 σ M H fm s →
  Fin X π W σ M H (fun L _ M' H' => ∀ D accV, H D = none → M' D = none → H' D = some (.lst accV) → DaAll X.K M' accV L → Q (.ref D) H') (d fm s) → eMax X e σ H Q
theorem rf_lc {elt tg iter : Expr} {ifs : List Expr} {scope : Scope} {own : List (Str × Nat)} {gt : TG} {js : List Nat} {g : Gt} {di : DL} {dt : DT} {de : DE} (hc : X.calm = true) (hN : X.N.Nodup) (hi : RI X tg iter di) (ok : BlkOk X.N X.env.scope scope own)
    (hg : ∀ (s : Shared) (H : Hp) (C : Addr) (cl : List (Str × Addr)) (fp : List Addr), PG (X.blk s H scope (compEnvC scope cl C X.env) fp) tg gt) (hT : TgOk X.K gt js g) (hjs : ∀ j ∈ js, j ∈ own.map (·.2))
    (ht : ∀ (s : Shared) (H : Hp) (C : Addr) (cl : List (Str × Addr)) (fp : List Addr), RC (X.blk s H scope (compEnvC scope cl C X.env) fp) ifs dt)
    (he : ∀ (s : Shared) (H : Hp) (C : Addr) (cl : List (Str × Addr)) (fp : List Addr), RE (X.blk s H scope (compEnvC scope cl C X.env) fp) elt de) (hs : ∀ x, foldedSetIterable iter X.env x = pure x := by intro _; rfl) :
    RF X (.ListComp elt [⟨tg, iter, ifs, 0⟩] scope pos) (dLcL di g (own.map (·.2)) dt de) := fun π W S1 σ M H fm s Q c k =>
  of_pe (pe_lc hc hN piMax ok hg ptB peB hs) (lc_run hi hT hjs ht he c k)
def dExt (i : Nat) (d : DL) : DS := fun fm => (Mo.of (slO fm[i]?)).bind fun xs => (d fm).bind fun ys => (Mo.of (few 100000 (xs ++ ys) ())).bind fun _ => Mo.pure (.nx (fm.set i (.own (xs ++ ys))))
theorem s_ext (i : Nat) {x : Str} {e : Expr} {d : DL} {p1 apos cpos : Pos} (h : RF X e d) (hN : X.N[i]? = some x := by rfl) (hv : Vis X.env.scope x := by first | exact Or.inl rfl | exact Or.inr (Or.inl rfl) | exact Or.inr (Or.inr rfl)) (hd : (x == ("__debug__" : Str)) = false := by decide)
    (hcd : (x == ("__classdict__" : Str)) = false := by decide)
    (hbase : attributeBase (.Name x p1) "extend" X.env (eval (.Name x p1) X.env) = eval (.Name x p1) X.env := by rfl)
    (hfew : ((backTo cpos (starEach [e] X.env)).all (fun x => !x.1) && (backToKw cpos (keywordEach [] X.env)).all (fun x => x.1.isSome)
      && decide ([e].length + ([] : List Keyword).length + (if ([] : List Keyword).isEmpty then 0 else 1) < 30)) = true := by rfl)
    (hline : (apos.endLine == cpos.line) = true := by rfl) (hs : starEach [e] X.env = (false, eval e X.env) :: starEach [] X.env := by rfl) (hplain : (backTo cpos (starEach [] X.env)).any (·.1) = false := by rfl)
    (hsw : swapsWith (.Call (.Attribute (.Name x p1) "extend" apos) [e] [] cpos) none pos.line X.env = pure false := by rfl) :
    RS X (.Expr (.Call (.Attribute (.Name x p1) "extend" apos) [e] [] cpos) pos) (dExt i d) := fun π W S0 S1 s0 σ M H fm s D c t k => by
  refine of_ps (ps_expr (pe_bm PySem.F.plainAttrs_list PySem.F.slot_list_extend PySem.F.type_list_extend mt_extend (pe_var hN hv hd hcd) (pa_cons (peMax e) pa_nil hs) hbase hfew hline hs hplain) hsw) ?_
  obtain ⟨xs, ex, k⟩ := fins_of k
  obtain ⟨l, vs, eσ, hl, hdl, hM, h1, hq, ei⟩ := t.fm.own ex
  refine ⟨_, eσ, .inl ⟨rfl, _, .inl (.inl hl)⟩, ?_⟩
  refine h π W S1 σ M H fm s _ (t.cnt c) ((fins c t k).mono fun ys s' M' H' u k p accV hp hMp hHp hdp => ?_)
  obtain ⟨_, ef, k⟩ := fins_of k
  have t1 := t.step c u
  obtain ⟨l2, vs2, eσ2, hl2, hdl2, hM2, _, _, _⟩ := t1.fm.own ex
  rw [eσ] at eσ2
  cases eσ2
  have hz := dps_len hdl2
  have hz2 := dps_len hdp
  have hz3 := (few_of ef).1
  rw [List.length_append] at hz3
  exact ⟨l, p, vs2, accV, rfl, rfl, hl2, hHp, Evl.sz_of (by omega), k σ M' _ (Ex.refl _) ⟨t1.st.chg c.ok h1 hM2, t1.fm.chg ei eσ hl2 hM2 (dps_app hdl2 hdp)⟩⟩
/-- from now on the list is read alone -/
def dFrz (i : Nat) (d : DS) : DS := fun fm => (Mo.of (slO fm[i]?)).bind fun xs => d (fm.set i (.d (.list xs)))
theorem ss_frz (i : Nat) {st : List Stmt} {d : DS} (h : RSs X st d) : RSs X st (dFrz i d) := fun π W S0 S1 s0 σ M H fm s D c t k => by
  obtain ⟨xs, ex, k⟩ := fins_of k
  obtain ⟨l, vs, eσ, hl, hdl, hM, h1, hq, ei⟩ := t.fm.own ex
  exact h π W S0 S1 s0 σ _ H _ s D c ⟨t.st.freeze h1 hM hl, t.fm.frz ei eσ hl hM hdl⟩ (FinS.up (Ex.new hM) k)
/-- the list is read, what comes of it is no list -/
def scal : PyData → Bool
  | .none => true
  | .bool _ => true
  | .int _ => true
  | .str _ => true
  | _ => false
def scalO (x : PyData) : Option PyData := if scal x = true then some x else none
def dView (i : Nat) (d : DE) : DE := fun fm => (Mo.of (slO fm[i]?)).bind fun xs => (d (fm.set i (.d (.list xs)))).nox.bind fun y => Mo.of (scalO y)
theorem scal_da {K : PySem.W.Frag} {M M' : Hp} {v : V} {x : PyData} (h : scal x = true) (k : Da K M v x) : Da K M' v x := by
  cases k with
  | non => exact .non
  | bl q => exact .bl q
  | int q => exact .int q
  | str q => exact .str q
  | _ => cases h
theorem r_view (i : Nat) {e : Expr} {d : DE} (h : RE X e d) : RE X e (dView i d) := fun π W S1 σ M H fm s Q c k => by
  have k := fin_bind c.ok k
  obtain ⟨xs, ex, k⟩ := fin_of k c.ok
  obtain ⟨l, vs, eσ, hl, hdl, hM, h1, hq, ei⟩ := c.fm.own ex
  have ex' : Ex M (upd M l (.lst vs)) := Ex.new hM
  have o' : Ok X.K π s (upd M l (.lst vs)) H := by
    refine ⟨fun a u ha => ?_, fun q e => ?_⟩
    · by_cases ea : a = l
      · subst ea
        rw [upd_same] at ha
        cases ha
        exact hl
      · rw [upd_ne ea] at ha
        exact c.ok.ex _ _ ha
    · obtain ⟨g1, g2, g3⟩ := c.ok.pen q e
      exact ⟨by rw [upd_ne (Ne.symm (hq q e))]; exact g1, g2, dp_ex ex' g3⟩
  have k := fin_bind c.ok (k M H c.ok.step)
  obtain ⟨y, s', ey, k⟩ := fin_nox k
  refine h π W0 S1 σ _ H _ s _ ⟨?_, o', c.fm.frz ei eσ hl hM hdl⟩ ?_
  · exact fun u s' x => by
      obtain ⟨_, _, _, _, _, _, _, _, _, _, _, _, _, _, _, _, z⟩ := x
      exact z.elim
  rw [ey]
  intro M' H' t v hv
  have tM : Step π s' M H M H' := ⟨Ex.refl _, fun a h => .inl h, (ex'.trans t.ex).trans t.ex2, t.off, t.pen⟩
  obtain ⟨z, ez, kz⟩ := fin_of (k M H' tM) (tM.ok c.ok)
  unfold scalO at ez
  split at ez
  · cases ez
    exact kz M H' (tM.ok c.ok).step v (scal_da (by assumption) hv)
  · cases ez
def dViewT (i : Nat) (d : DT) : DT := fun fm => (Mo.of (slO fm[i]?)).bind fun xs => (d (fm.set i (.d (.list xs)))).nox
theorem t_view (i : Nat) {e : Expr} {d : DT} (h : RT X e d) : RT X e (dViewT i d) := fun π W S1 σ M H fm s Q c k => by
  have k := fin_bind c.ok k
  obtain ⟨xs, ex, k⟩ := fin_of k c.ok
  obtain ⟨l, vs, eσ, hl, hdl, hM, h1, hq, ei⟩ := c.fm.own ex
  have ex' : Ex M (upd M l (.lst vs)) := Ex.new hM
  have o' : Ok X.K π s (upd M l (.lst vs)) H := by
    refine ⟨fun a u ha => ?_, fun q e => ?_⟩
    · by_cases ea : a = l
      · subst ea
        rw [upd_same] at ha
        cases ha
        exact hl
      · rw [upd_ne ea] at ha
        exact c.ok.ex _ _ ha
    · obtain ⟨g1, g2, g3⟩ := c.ok.pen q e
      exact ⟨by rw [upd_ne (Ne.symm (hq q e))]; exact g1, g2, dp_ex ex' g3⟩
  obtain ⟨y, s', ey, k⟩ := fin_nox (k M H c.ok.step)
  refine h π W0 S1 σ _ H _ s _ ⟨?_, o', c.fm.frz ei eσ hl hM hdl⟩ ?_
  · exact fun u s' x => by
      obtain ⟨_, _, _, _, _, _, _, _, _, _, _, _, _, _, _, _, z⟩ := x
      exact z.elim
  rw [ey]
  intro M' H' t
  exact k M H' ⟨Ex.refl _, fun a h => .inl h, (ex'.trans t.ex).trans t.ex2, t.off, t.pen⟩
/-- an item of a list of one's own -/
def dIxO (i : Nat) (d : DE) : DE := fun fm => (Mo.of (slO fm[i]?)).bind fun xs => (d fm).bind fun y => Mo.of (gIx (.list xs) y)
theorem r_ixO (i : Nat) {x : Str} {b : Expr} {d : DE} {p1 : Pos} (h : RE X b d) (hN : X.N[i]? = some x := by rfl) (hv : Vis X.env.scope x := by first | exact Or.inl rfl | exact Or.inr (Or.inl rfl) | exact Or.inr (Or.inr rfl)) (hd : (x == ("__debug__" : Str)) = false := by decide)
    (hcd : (x == ("__classdict__" : Str)) = false := by decide) (hs : PlainIx b := by exact fun _ _ => rfl) : RE X (.Subscript (.Name x p1) b pos) (dIxO i d) := fun π W S1 σ M H fm s Q c k => by
  have k := fin_bind c.ok k
  obtain ⟨xs, ex, k⟩ := fin_of k c.ok
  obtain ⟨l, vs, eσ, hl, hdl, hM, h1, hq, ei⟩ := c.fm.own ex
  refine of_pe (pe_ix ix_list (pe_var hN hv hd hcd) (peMax b) hs) ⟨_, eσ, ?_⟩
  refine h π W S1 σ M H fm s _ c ((fin_bind c.ok (k M H c.ok.step)).mono fun y s' M' H' t k v hv => ?_)
  have c1 := c.step t
  obtain ⟨z, ez, kz⟩ := fin_of k c1.ok
  obtain ⟨l2, vs2, eσ2, hl2, hdl2, _⟩ := c1.fm.own ex
  rw [eσ] at eσ2
  cases eσ2
  cases y with
  | int j =>
    have hl3 := dps_len hdl2
    have ez : atI xs j = some z := ez
    unfold atI at ez
    cases hj : ixN xs.length j with
    | none => rw [hj] at ez; cases ez
    | some m =>
      rw [hj] at ez
      obtain ⟨w, e1, e2⟩ := dps_get hdl2 (show xs[m]? = some z from ez)
      exact ⟨l, vs2, j, w, rfl, dp_int hv, .inl (.inl hl2), by unfold atI; rw [hl3, hj]; exact e1, kz M' H' c1.ok.step w e2⟩
  | _ => cases ez
/-! ### the pen -/
def penGet (ns : List Int) (s : Ps) : Int → Option PyData
  | 0 => some (.list (ns.map .int))
  | 1 => some (.int s.1)
  | 2 => some (.int s.2)
  | _ => none
def dPenIx (i : Nat) (j : Int) : DE := fun fm => (Mo.of (slP fm[i]?)).bind fun ns => fun s => match penGet ns s j with
  | some d => .ok d s
  | none => .bad
theorem slP_of {K : PySem.W.Frag} {π : Option Pen} {S1 M H : Hp} {σ : L2.St} {fm : Fm} (h : FmOk K π S1 σ M H fm) {i : Nat} {ns : List Int} (e : slP fm[i]? = some ns) : ∃ q, π = some q ∧ σ[i]? = some (some (.ref q.p)) ∧ q.ns = ns := by
  cases e1 : fm[i]? with
  | none => rw [e1] at e; cases e
  | some sl =>
    rw [e1] at e
    cases sl with
    | pen ms =>
      cases e
      obtain ⟨o, e2, q, hq, rfl, hn⟩ := h.at_ i _ e1
      exact ⟨q, hq, e2, hn⟩
    | _ => cases e
theorem r_penIx (i : Nat) {x : Str} {j : Int} {kk : Nat} {p1 p2 : Pos} (hN : X.N[i]? = some x := by rfl) (hv : Vis X.env.scope x := by first | exact Or.inl rfl | exact Or.inr (Or.inl rfl) | exact Or.inr (Or.inr rfl)) (hd : (x == ("__debug__" : Str)) = false := by decide)
    (hcd : (x == ("__classdict__" : Str)) = false := by decide) (hs : PlainIx (.Constant (.int j) kk p2) := by exact fun _ _ => rfl) : RE X (.Subscript (.Name x p1) (.Constant (.int j) kk p2) pos) (dPenIx i j) := fun π W S1 σ M H fm s Q c k => by
  have k := fin_bind c.ok k
  obtain ⟨ns, ex, k⟩ := fin_of k c.ok
  specialize k M H c.ok.step
  obtain ⟨q, hq, eσ, rfl⟩ := slP_of c.fm ex
  obtain ⟨g1, g2, g3⟩ := c.ok.pen q hq
  refine of_pe (pe_ix ix_list (pe_var hN hv hd hcd) pe_int hs) ⟨_, eσ, q.p, [.ref q.g, .int s.1, .int s.2], j, ?_⟩
  cases e : penGet q.ns s j with
  | none => simp only [e] at k; exact k.elim
  | some d =>
    simp only [e] at k
    have k := k M H c.ok.step
    unfold penGet at e
    split at e
    · cases e; exact ⟨_, rfl, rfl, .inl (.inl g2), rfl, k _ g3⟩
    · cases e; exact ⟨_, rfl, rfl, .inl (.inl g2), rfl, k _ (.int _)⟩
    · cases e; exact ⟨_, rfl, rfl, .inl (.inl g2), rfl, k _ (.int _)⟩
    · cases e
def penSet (s : Ps) : Int → PyData → Option Ps
  | 1, .int i => some (i, s.2)
  | 2, .int i => some (s.1, i)
  | _, _ => none
def dPenSet (i : Nat) (j : Int) (d : DE) : DS := fun fm => (d fm).bind fun x => (Mo.of (slP fm[i]?)).bind fun _ => fun s => match penSet s j x with
  | some s' => .ok (.nx fm) s'
  | none => .bad
theorem s_penSet (i : Nat) {x : Str} {e : Expr} {d : DE} {j : Int} {kk : Nat} {p1 p2 p3 : Pos} (h : RE X e d) (hN : X.N[i]? = some x := by rfl) (hv : Vis X.env.scope x := by first | exact Or.inl rfl | exact Or.inr (Or.inl rfl) | exact Or.inr (Or.inr rfl)) (hd : (x == ("__debug__" : Str)) = false := by decide)
    (hcd : (x == ("__classdict__" : Str)) = false := by decide)
    (ha : ∀ v, assign (.Subscript (.Name x p1) (.Constant (.int j) kk p2) p3) X.env v = (do
      let ov ← holding [v] (eval (.Name x p1) X.env)
      let iv ← holding [v, ov] (eval (.Constant (.int j) kk p2) X.env)
      standAt p3
      holding [v, ov, iv] (setItem ov iv v)
      release [v, ov, iv] []) := by intro _; rfl)
    (hs : swapsWithSole [.Subscript (.Name x p1) (.Constant (.int j) kk p2) p3] e pos.line X.env = pure false := by rfl) (hw : swappedStores [.Subscript (.Name x p1) (.Constant (.int j) kk p2) p3] e X.env = pure none := by rfl)
    (h1 : (assignEach [.Subscript (.Name x p1) (.Constant (.int j) kk p2) p3] X.env).map (·.2) = [assign (.Subscript (.Name x p1) (.Constant (.int j) kk p2) p3) X.env] := by rfl) :
    RS X (.Assign [.Subscript (.Name x p1) (.Constant (.int j) kk p2) p3] e pos) (dPenSet i j d) := fun π W S0 S1 s0 σ M H fm s D c t k => by
  refine of_ps (ps_asg (peMax e) (pg_sub (pe_var hN hv hd hcd) pe_int set_list ha) hs hw h1) ?_
  refine h π W S1 σ M H fm s _ (t.cnt c) ((fins c t k).mono fun y s' M' H' u k v hv => ?_)
  have t1 := t.step c u
  have o1 := (t1.cnt c).ok
  obtain ⟨ns, ex, k⟩ := fins_of k
  obtain ⟨q, hq, eσ, rfl⟩ := slP_of t1.fm ex
  obtain ⟨g1, g2, g3⟩ := o1.pen q hq
  cases e2 : penSet s' j y with
  | none => simp only [e2] at k; exact k.elim
  | some s2 =>
    simp only [e2] at k
    have st2 : StS X.K π S0 S1 s2 σ M' (upd H' q.p (penO q s2)) fm := by
      refine ⟨⟨t1.st.ex, t1.st.gr, fun a ob e => ?_, fun a ob n e => ?_, fun q' e => ?_⟩, t1.fm.len, fun i' x' e' => ?_, t1.fm.apart⟩
      · rw [upd_ne (fun z => by rw [z, g1] at e; cases e)]
        exact t1.st.ex2 a ob e
      · rw [upd_ne (n q hq)]
        exact t1.st.off a ob n e
      · rw [hq] at e
        cases e
        exact upd_same
      · obtain ⟨o, e3, h3⟩ := t1.fm.at_ i' x' e'
        refine ⟨o, e3, ?_⟩
        cases x' with
        | own xs =>
          obtain ⟨l, vs, rfl, f1, f2, f3, f4, f5⟩ := h3
          exact ⟨l, vs, rfl, by rw [upd_ne (f5 q hq)]; exact f1, f2, f3, f4, f5⟩
        | no => trivial
        | d x => exact h3
        | pen ns => exact h3
        | exc _ _ => trivial
    have k := k σ M' _ (Ex.refl _) st2
    refine ⟨_, eσ, q.p, [.ref q.g, .int s'.1, .int s'.2], j, ?_⟩
    unfold penSet at e2
    split at e2
    · cases e2
      rw [dp_int hv]
      exact ⟨1, rfl, rfl, g2, rfl, k⟩
    · cases e2
      rw [dp_int hv]
      exact ⟨2, rfl, rfl, g2, rfl, k⟩
    · cases e2
end Rf

set_option maxRecDepth 100000
set_option maxHeartbeats 4000000
/-! defs, by what they mean; their calls -/
namespace Rf
open PySem PySem.Spec PyProof.Rows L2 Gd Dt Dl Ee Sd
open Evl (Ex Ex.refl Ex.trans Ex.new ex_l ex_t sq_of st_of fresh_back)
/-- a def's promise, errors among it, where no repr is on its way -/
structure Fx (P : Program) (w : World) (K : PySem.W.Frag) (mg : Str → Option Value) (base : Heap) (k : Nat) (f : Addr) (fd : FuncData) (ps : List Str) (sp : Sp) : Prop where
  len : ∀ vs H Q E, sp vs H Q E → vs.length = ps.length
  run : ∀ (A : Around) (outer : List Env) (s : Shared) (H : Hp) (args : Args) (us : List Value) (vs : List V) (Q : VK) (E : XK),
    Free A → Room k A → Env0 P w K mg base A outer s H → BindsTo s fd args (ps.zip us) → Vals vs us → sp vs H Q E →
      codeAny (model P w) A (.call (.ref f) args) (CR (L2.CX P w) outer P w H s Q E) s
section
variable {P : Program} {w : World} {K : PySem.W.Frag} {mg : Str → Option Value} {base : Heap}
theorem fx_ok {k : Nat} {f : Addr} {fd : FuncData} {ps : List Str} {sp : Sp} {x qual : Str} {st : Stmt} {N : List Str} (F : Fun K x qual st f fd) (S : FnScope N ps (defScope st)) (len : ∀ vs H Q E, sp vs H Q E → vs.length = ps.length)
    (hbody : ∀ (cdv : Value) (A : Around) (outer : List Env) (s : Shared) (H : Hp) (vs : List V) (Q : VK) (E : XK),
      Free A → Room k (A.deeper (envOfC qual (defScope st) s.heap.objs.size f cdv)) → sp vs H Q E →
        ∃ t, PSs (cxOf (L2.CX P w) P w K mg base N qual (defScope st) f cdv A outer s H E) (defBody st) t ∧
          t { nx := fun _ H' => Q .non H', rt := Q } (start N vs) H) : Fx P w K mg base (k + 1) f fd ps sp := by
  obtain ⟨oc, od, kV, doc, pm, an, cdv, ct, osl, rfl, lk, hcd⟩ := F.ex
  constructor
  · exact len
  intro A outer s H args us vs Q E hg hr e0 hb r hsp
  have hl := len _ _ _ _ hsp
  have keeps : ∀ b o, base.get? b = some o → s.heap.get? b = some o := fun b o e => (e0.bs b o e).1
  have KX := e0.mod.kin.keeps keeps
  have lim := e0.mod.nolimit.keeps keeps
  apply codeAny_call_function hr.depth (KX _ _ lk) rfl S.co S.gen rfl (PySem.W.codeRec_of KX hcd)
  apply hb
  apply wpAny_newFunctionEnv_cells S.kind
  · rintro ⟨n, v⟩ hy
    cases S.par n (List.of_mem_zip hy).1 with
    | inl q => exact .inl q
    | inr q => exact .inr ⟨q, PySem.W.cellsFrom_some _ _ _ (.inl q)⟩
  rintro env rfl s1 x
  refine ⟨lim.keeps x.toInCall.keep, ?_⟩
  apply codeAny_func
  obtain ⟨t, ht, hq⟩ := hbody cdv A outer s H vs Q E hg (hr.deeper _) hsp
  have I := inv_start (CX := L2.CX P w) (E := E) S hr.hd e0 hl r x
  apply wpAny_mono (ht.run [] s1 (start N vs) H _ I hq)
  · intro fl s' hs
    cases fl with
    | ret u =>
      obtain ⟨v, σ', H', J, rv, q⟩ := hs
      exact ⟨v, H', J.os, J.bare, J.base, J.hok, rv, q⟩
    | next =>
      obtain ⟨σ', H', J, q⟩ := hs
      exact ⟨V.non, H', J.os, J.bare, J.base, J.hok, rfl, q⟩
    | brk => exact hs.elim fun _ h => h.elim fun _ h => h.2.elim
    | cont => exact hs.elim fun _ h => h.elim fun _ h => h.2.elim
  · exact fun e s' hs => hs
/-! ### what a def means -/
abbrev Gf := List Arg → Mo PyData
def argSl : Arg → Sl
  | .d x => .d x
  | .pen ns => .pen ns
def initF (n : Nat) (as : List Arg) : Fm := as.map argSl ++ List.replicate (n - as.length) .no
def endF : Rn Out → Rn PyData
  | .ok (.rt d) s => .ok d s
  | .ok (.nx _) s => .ok .none s
  | .ok _ _ => .bad
  | .exc c ds s => .exc c ds s
  | .bad => .bad
def fnSem (n : Nat) (body : DS) : Gf := fun as s => endF (body (initF n as) s)
def FinG (mg : Str → Option Value) (K : PySem.W.Frag) (π : Option Pen) (M H : Hp) (Q : VK) (E : XK) : Rn PyData → Prop
  | .ok d s' => ∀ M' H', Step π s' M H M' H' → ∀ v, Da K M' v d → Q v H'
  | .exc c ds s' => ∀ cls dd M' H', Step π s' M H M' H' → ExRep mg K c ds cls dd M' H' → E cls dd H'
  | .bad => False
def spG (K : PySem.W.Frag) (mg : Str → Option Value) (n : Nat) (g : Gf) : Sp := fun vs H Q E => ∃ (π : Option Pen) (s : Ps) (M : Hp) (as : List Arg), ArgsOk K π M vs as ∧ as.length = n ∧ Ok K π s M H ∧ FinG mg K π M H Q E (g as s)
theorem argsOk_len {π : Option Pen} {M : Hp} {vs : List V} {as : List Arg} (h : ArgsOk K π M vs as) : vs.length = as.length := by
  induction h with
  | nil => rfl
  | cons _ _ ih => rw [List.length_cons, List.length_cons, ih]
theorem argsOk_get {π : Option Pen} {M : Hp} {vs : List V} {as : List Arg} (h : ArgsOk K π M vs as) : ∀ {i : Nat} {a : Arg}, as[i]? = some a → ∃ v, vs[i]? = some v ∧ ArgOk K π M v a := by
  induction h with
  | nil => intro i a e; simp at e
  | cons h1 h2 ih =>
    intro i a e
    cases i with
    | zero =>
      simp at e
      subst e
      exact ⟨_, rfl, h1⟩
    | succ i =>
      obtain ⟨v, q1, q2⟩ := ih (by simpa using e)
      exact ⟨v, by simpa using q1, q2⟩
theorem init_ok {π : Option Pen} {M H : Hp} {vs : List V} {as : List Arg} {N : List Str} (h : ArgsOk K π M vs as) (hl : as.length ≤ N.length) : FmOk K π H (start N vs) M H (initF N.length as) := by
  have l := argsOk_len h
  refine ⟨?_, fun i x e => ?_, fun i j xs ys a h1 h2 _ _ => ?_⟩
  · unfold initF L2.start
    simp only [List.length_append, List.length_map, List.length_replicate]
    omega
  · unfold initF at e
    unfold L2.start
    by_cases hi : i < as.length
    · rw [List.getElem?_append_left (by simpa using hi), List.getElem?_map] at e
      cases ea : as[i]? with
      | none => rw [ea] at e; cases e
      | some a =>
        rw [ea] at e
        cases e
        obtain ⟨v, q1, q2⟩ := argsOk_get h ea
        refine ⟨some v, ?_, ?_⟩
        · rw [List.getElem?_append_left (by simp; omega), List.getElem?_map, q1]
          rfl
        · cases a with
          | d x => exact ⟨v, rfl, q2⟩
          | pen ns =>
            obtain ⟨q, e1, e2, e3⟩ := q2
            exact ⟨q, e1, by rw [e2], e3⟩
    · rw [List.getElem?_append_right (by simpa using hi)] at e
      simp only [List.length_map] at e
      have hr := List.mem_of_getElem? e
      have hx := (List.mem_replicate.mp hr).2
      have hb := (List.getElem?_eq_some_iff.mp e).1
      rw [List.length_replicate] at hb
      subst hx
      refine ⟨none, ?_, trivial⟩
      rw [List.getElem?_append_right (by simp; omega)]
      rw [List.getElem?_replicate, if_pos (by simp; omega)]
  · exfalso
    unfold initF at h1
    have hm := List.mem_of_getElem? h1
    rcases List.mem_append.mp hm with z | z
    · obtain ⟨a, _, ea⟩ := List.mem_map.mp z
      cases a <;> cases ea
    · cases (List.mem_replicate.mp z).2
/-- a def of the text that means g, as callers find it -/
structure Fc (P : Program) (w : World) (K : PySem.W.Frag) (mg : Str → Option Value) (base : Heap) (x : Str) (k : Nat) (n : Nat) (g : Gf) : Prop where
  ex : ∃ (f : Addr) (fd : FuncData) (ps : List Str), ps.length = n ∧ Fx P w K mg base k f fd ps (spG K mg n g) ∧ mg x = some (.ref f) ∧ PySem.W.keepIn K (.ref f) = true ∧ L2.Binds K fd ps []
theorem fc_mk {k : Nat} {f : Addr} {fd : FuncData} {ps N : List Str} {x : Str} {st : Stmt} {d : DS} (F : Fun K x x st f fd) (m : mg x = some (.ref f)) (S : FnScope N ps (defScope st)) (hb : L2.Binds K fd ps [])
    (body : ∀ (cdv : Value) (A : Around) (outer : List Env) (s : Shared) (H : Hp) (E : XK), Free (cxOf (L2.CX P w) P w K mg base N x (defScope st) f cdv A outer s H E).A → Room k (cxOf (L2.CX P w) P w K mg base N x (defScope st) f cdv A outer s H E).A →
      PassesOwn (model P w) (cxOf (L2.CX P w) P w K mg base N x (defScope st) f cdv A outer s H E).A (cxOf (L2.CX P w) P w K mg base N x (defScope st) f cdv A outer s H E).env (cxOf (L2.CX P w) P w K mg base N x (defScope st) f cdv A outer s H E).xe →
        RSs (cxOf (L2.CX P w) P w K mg base N x (defScope st) f cdv A outer s H E) (defBody st) d) :
    Fc P w K mg base x (k + 1) ps.length (fnSem N.length d) := by
  refine ⟨f, fd, ps, rfl, fx_ok F S (fun vs H Q E h => ?_) (fun cdv A outer s H vs Q E hg hr h => ?_), m, F.kp, hb⟩
  · obtain ⟨π, s, M, as, h1, h2, _⟩ := h
    rw [argsOk_len h1, h2]
  · obtain ⟨π, st0, M, as, h1, h2, o, k0⟩ := h
    have hpl : ps.length ≤ N.length := by have := congrArg List.length S.pre; rw [List.length_take] at this; omega
    refine ⟨_, pssMax _, body cdv A outer s H E (hg.deeper _) hr (passes_of rfl) π (fun cls dd _ H' => E cls dd H') M H st0 (start N vs) M H (initF N.length as) st0 _ ⟨?_, fun c d σ σ' H h => h, o⟩ ⟨o.step, init_ok h1 (by omega)⟩ ?_⟩
    · exact takes_of rfl rfl rfl rfl
    · unfold fnSem at k0
      cases e : d (initF N.length as) st0 with
      | ok q s' =>
        rw [e] at k0
        cases q with
        | nx f => exact fun σ' M' H' _ t => k0 M' H' t.st .non .non
        | rt x => exact fun v M' H' t hv => k0 M' H' t v hv
        | bk f => exact k0.elim
        | ct f => exact k0.elim
      | exc c ds s' =>
        rw [e] at k0
        exact fun cls dd σ' M' H' t r => k0 cls dd M' H' t r
      | bad => rw [e] at k0; exact k0
end
section
variable {X : Cx} {pos : Pos}
theorem fx_run {k : Nat} {f : Addr} {fd : FuncData} {ps : List Str} {sp : Sp} {pins : List (Addr × Obj)} {σ : L2.St} {H : Hp} {s : Shared} {Q : VK} {W : WX} {us : List Value} {vs : List V} (F : Fx X.prog X.w X.K X.mg X.base k f fd ps sp) (hg : Free X.A) (hr : Room k X.A)
    (hb : L2.Binds X.K fd ps []) (tk : Takes X W) (I : Inv X pins σ H s) (r : Vals vs us) (h : sp vs H Q (fun cls dd H' => W cls dd σ H')) : wpAny (model X.prog X.w) X.A (call (.ref f) us) (EP X pins σ Q) X.xe s := by
  have hl : (us ++ []).length = ps.length := by
    rw [List.append_nil, ← r.length]
    exact F.len _ _ _ _ h
  have bt := hb s us I.kIn hl
  rw [List.append_nil] at bt
  apply wpAny_call
  apply codeAny_mono (F.run X.A X.stack s H ⟨us, []⟩ us vs Q _ hg hr I.env0 bt r h)
  intro r s' hq
  match r, hq with
  | .ok (.ret u), hq => exact I.after hq
  | .ok .next, hq => exact False.elim hq
  | .ok .brk, hq => exact False.elim hq
  | .ok .cont, hq => exact False.elim hq
  | .error e, hq => exact tk _ _ (XE.of_call I (fun cls d H' h => h) hq)
def dCall (n : Nat) (g : Gf) (da : DA) : DE := fun fm => (da fm).bind fun as => if as.length = n then g as else Mo.bad
theorem fin_G {π : Option Pen} {W : WX} {σ : L2.St} {M H : Hp} {Q : VK} {r : Rn PyData} (h : Fin X π W σ M H (fun x _ M' H' => ∀ v, Da X.K M' v x → Q v H') r) : FinG X.mg X.K π M H Q (fun cls dd H' => W cls dd σ H') r := by
  cases r with
  | ok d s' => exact h
  | exc c ds s' => exact h
  | bad => exact h
theorem r_call {x : Str} {p : Pos} {e : Expr} {es : List Expr} {n k : Nat} {g : Gf} {da : DA} (c : Fc X.prog X.w X.K X.mg X.base x k n g) (hfree : Free X.A) (hr : Room k X.A) (hg : Gl X x) (ha : RA X (e :: es) da) (hdb : (x == ("__debug__" : Str)) = false := by decide)
    (he : starEach (e :: es) X.env = (false, eval e X.env) :: starEach es X.env := by rfl) (hpl : (backTo pos (starEach es X.env)).any (·.1) = false := by rfl) : RE X (.Call (.Name x p) (e :: es) [] pos) (dCall n g da) := fun π W S1 σ M H fm s Q cn kf => by
  intro pins sh I
  obtain ⟨f, fd, ps, hl, F, hm, hk, hb⟩ := c.ex
  refine wpAny_Call_Name_kw (ld_glob I hg hm ?_ hdb)
  refine PySem.W.callWith_K (h₀ := X.base) I.ok.mod.kin hk (thn ((paMax (e :: es)).run pos pins sh σ H (fun vs H1 => spG X.K X.mg n g vs H1 Q (fun cls dd H' => W cls dd σ H')) I ?_) fun us s1 ⟨vs, H1, I1, r, q⟩ => ⟨I1.kIn, ?_⟩) he hpl
  · refine ha π W S1 σ M H fm s _ cn ((fin_bind cn.ok kf).mono fun as s' M' H' t k vs hvs => ?_)
    by_cases hn : as.length = n
    · rw [if_pos hn] at k
      exact ⟨π, s', M', as, hvs, hn, (cn.step t).ok, fin_G k⟩
    · rw [if_neg hn] at k
      exact k.elim
  · exact fx_run F hfree hr hb cn.tk I1 r q
theorem r_call0 {x : Str} {p : Pos} {k : Nat} {g : Gf} (c : Fc X.prog X.w X.K X.mg X.base x k 0 g) (hfree : Free X.A) (hr : Room k X.A) (hg : Gl X x) (hdb : (x == ("__debug__" : Str)) = false := by decide) : RE X (.Call (.Name x p) [] [] pos) (dCall 0 g dANil) := fun π W S1 σ M H fm s Q cn kf => by
  intro pins sh I
  obtain ⟨f, fd, ps, hl, F, hm, hk, hb⟩ := c.ex
  refine wpAny_Call_Name_kw (ld_glob I hg hm ?_ hdb)
  exact PySem.W.callWith_K0 I.kIn hk (fx_run (us := []) F hfree hr hb cn.tk I .nil ⟨π, s, M, [], .nil, rfl, cn.ok, fin_G kf⟩)
end
end Rf

set_option maxRecDepth 100000
set_option maxHeartbeats 4000000
/-! sorted sets, errors raised, own lists stored into -/
namespace Rf
open PySem PySem.Spec PyProof.Rows L2 Gd Dt Dl Ee Sd
open Evl (Ex Ex.refl Ex.trans Ex.new ex_l ex_t sq_of st_of fresh_back)
/-! ### the members of a row, ascending, each once -/
def insU (d : PyData) : List PyData → List PyData
  | [] => [d]
  | e :: es => if enc d = enc e then e :: es else if enc d < enc e then d :: e :: es else e :: insU d es
def sortU : List PyData → List PyData
  | [] => []
  | d :: ds => insU d (sortU ds)
theorem lt_irr {a : List Int} (h : a < a) : False := by
  exact absurd h (List.lt_irrefl a)
theorem enc_inj {d e : PyData} (k : like d e = true) (h : enc d = enc e) : d = e := by
  rcases enc_tri k with z | z | z
  · exact z
  · rw [h] at z
    exact (lt_irr z).elim
  · rw [h] at z
    exact (lt_irr z).elim
theorem mem_insU {d x : PyData} : ∀ {es : List PyData}, (∀ e ∈ es, like d e = true) → (x ∈ insU d es ↔ x = d ∨ x ∈ es)
  | [], _ => by simp [insU]
  | e :: es, lk => by
    unfold insU
    by_cases h1 : enc d = enc e
    · rw [if_pos h1]
      have := enc_inj (lk e List.mem_cons_self) h1
      subst this
      simp
    · rw [if_neg h1]
      by_cases h2 : enc d < enc e
      · rw [if_pos h2]
        simp
      · rw [if_neg h2, List.mem_cons, mem_insU fun e he => lk e (List.mem_cons_of_mem _ he), List.mem_cons]
        constructor
        · rintro (h | h | h)
          · exact .inr (.inl h)
          · exact .inl h
          · exact .inr (.inr h)
        · rintro (h | h | h)
          · exact .inr (.inl h)
          · exact .inl h
          · exact .inr (.inr h)
theorem mem_sortU {x : PyData} : ∀ {ds : List PyData}, (∀ d ∈ ds, ∀ e ∈ ds, like d e = true) → (x ∈ sortU ds ↔ x ∈ ds)
  | [], _ => Iff.rfl
  | d :: ds, lk => by
    have lk' : ∀ a ∈ ds, ∀ e ∈ ds, like a e = true := fun a ha e he => lk a (List.mem_cons_of_mem _ ha) e (List.mem_cons_of_mem _ he)
    show x ∈ insU d (sortU ds) ↔ _
    rw [mem_insU fun e he => lk d List.mem_cons_self e (List.mem_cons_of_mem _ ((mem_sortU lk').mp he)), mem_sortU lk', List.mem_cons]
def Asc (es : List PyData) : Prop := es.Pairwise (fun d e => enc d < enc e)
theorem asc_insU {d : PyData} : ∀ {es : List PyData}, (∀ e ∈ es, like d e = true) → Asc es → Asc (insU d es)
  | [], _, _ => by simp [insU, Asc]
  | e :: es, lk, h => by
    unfold insU
    by_cases h1 : enc d = enc e
    · rw [if_pos h1]
      exact h
    · rw [if_neg h1]
      have hc := List.pairwise_cons.mp h
      by_cases h2 : enc d < enc e
      · rw [if_pos h2]
        refine List.pairwise_cons.mpr ⟨fun x hx => ?_, h⟩
        rcases List.mem_cons.mp hx with rfl | hx
        · exact h2
        · exact lt_tr h2 (hc.1 x hx)
      · rw [if_neg h2]
        refine List.pairwise_cons.mpr ⟨fun x hx => ?_, asc_insU (fun e he => lk e (List.mem_cons_of_mem _ he)) hc.2⟩
        rcases (mem_insU fun e he => lk e (List.mem_cons_of_mem _ he)).mp hx with rfl | hx
        · rcases enc_tri (lk e List.mem_cons_self) with z | z | z
          · exact absurd (by rw [z]) h1
          · exact absurd z h2
          · exact z
        · exact hc.1 x hx
theorem asc_sortU : ∀ {ds : List PyData}, (∀ d ∈ ds, ∀ e ∈ ds, like d e = true) → Asc (sortU ds)
  | [], _ => List.Pairwise.nil
  | d :: ds, lk => by
    have lk' : ∀ a ∈ ds, ∀ e ∈ ds, like a e = true := fun a ha e he => lk a (List.mem_cons_of_mem _ ha) e (List.mem_cons_of_mem _ he)
    exact asc_insU (fun e he => lk d List.mem_cons_self e (List.mem_cons_of_mem _ ((mem_sortU lk').mp he))) (asc_sortU lk')
theorem asc_uniq : ∀ {as bs : List PyData}, Asc as → Asc bs → (∀ x, x ∈ as ↔ x ∈ bs) → as = bs
  | [], [], _, _, _ => rfl
  | [], b :: bs, _, _, h => by
    have := (h b).mpr List.mem_cons_self
    cases this
  | a :: as, [], _, _, h => by
    have := (h a).mp List.mem_cons_self
    cases this
  | a :: as, b :: bs, ha, hb, h => by
    have ca := List.pairwise_cons.mp ha
    have cb := List.pairwise_cons.mp hb
    have e : a = b := by
      rcases List.mem_cons.mp ((h a).mp List.mem_cons_self) with e | m
      · exact e
      · rcases List.mem_cons.mp ((h b).mpr List.mem_cons_self) with e | m2
        · exact e.symm
        · exact (lt_irr (lt_tr (cb.1 a m) (ca.1 b m2))).elim
    subst e
    rw [asc_uniq ca.2 cb.2 fun x => ?_]
    constructor
    · intro hx
      rcases List.mem_cons.mp ((h x).mp (List.mem_cons_of_mem _ hx)) with e | m
      · subst e
        exact (lt_irr (ca.1 x hx)).elim
      · exact m
    · intro hx
      rcases List.mem_cons.mp ((h x).mpr (List.mem_cons_of_mem _ hx)) with e | m
      · subst e
        exact (lt_irr (cb.1 x hx)).elim
      · exact m
def hdI : PyData → Bool
  | .tuple (.int _ :: _) => true
  | _ => false
def hdT : PyData → Bool
  | .tuple (.tuple _ :: _) => true
  | _ => false
def fitB (ds : List PyData) : Bool := ds.all keyD && (ds.all fun d => decide (d.depth ≤ 8)) && (ds.all hdI || ds.all hdT) && (ds.all fun d => ds.all fun e => like d e) && decide (ds.length < 64)
theorem fit_of {ds : List PyData} (h : fitB ds = true) : ∃ hi, Fit hi ds := by
  unfold fitB at h
  simp only [Bool.and_eq_true, Bool.or_eq_true, List.all_eq_true, decide_eq_true_eq] at h
  obtain ⟨⟨⟨⟨h1, h2⟩, h3⟩, h4⟩, h5⟩ := h
  rcases h3 with h3 | h3
  · refine ⟨true, h1, h2, fun d hd => ?_, h4, h5⟩
    have z := h3 d hd
    unfold hdI at z
    split at z
    · exact ⟨_, _, rfl, _, rfl⟩
    · cases z
  · refine ⟨false, h1, h2, fun d hd => ?_, h4, h5⟩
    have z := h3 d hd
    unfold hdT at z
    split at z
    · exact ⟨_, _, rfl, _, rfl⟩
    · cases z
def gSortSet : PyData → Option PyData
  | .list ds => if fitB ds = true then some (.list (sortU ds)) else none
  | _ => none
def dSortSet (d : DE) : DE := fun fm => (d fm).bind fun x => Mo.of (gSortSet x)
variable {X : Cx} {pos : Pos}
theorem r_sortset {k : Nat} {e : Expr} {d : DE} {p p2 pos2 : Pos} (hc : X.calm = true) (hr : Room k X.A) (hgs : Gl X "sorted") (hms : X.mg "sorted" = none) (hgt : Gl X "set") (hmt : X.mg "set" = none) (h : RE X e d)
    (h1 : starEach [e] X.env = (false, eval e X.env) :: starEach [] X.env := by rfl) (h2 : (backTo pos2 (starEach [] X.env)).any (·.1) = false := by rfl)
    (h3 : starEach [.Call (.Name "set" p2) [e] [] pos2] X.env = (false, eval (.Call (.Name "set" p2) [e] [] pos2) X.env) :: starEach [] X.env := by rfl) (h4 : (backTo pos (starEach [] X.env)).any (·.1) = false := by rfl) :
    RE X (.Call (.Name "sorted" p) [.Call (.Name "set" p2) [e] [] pos2] [] pos) (dSortSet d) := fun π W S1 σ M H fm s Q c kf => by
  refine of_pe (pe_callB (cr_sortedD hc hr.units) hgs hms (by decide +kernel) (pa_cons (pe_callTy (cr_setD hc hr.units) hgt hmt (by decide +kernel) (pa_cons (peMax e) pa_nil h1) (by decide) (by decide) h1 h2) pa_nil h3) (by decide) (by decide) h3 h4) ?_
  refine h π W S1 σ M H fm s _ c ((fin_bind c.ok kf).mono fun x s' N H2 t kf v kv => ?_)
  have c1 := c.step t
  have o2 := c1.ok.none
  obtain ⟨z, ez, kf⟩ := fin_of kf c1.ok
  cases x with
  | list ds =>
    unfold gSortSet at ez
    dsimp only at ez
    split at ez
    · rename_i hfit
      cases ez
      obtain ⟨hi, fit⟩ := fit_of hfit
      obtain ⟨l, xs, rfl, hl, hall⟩ := dp_lst kv
      obtain ⟨ks, rfl, e2, m⟩ := ks_of hall fun d hd => by
        obtain ⟨f, r, e, _⟩ := fit.head d hd
        exact ⟨_, e⟩
      have inds : ∀ p ∈ ks, p.2 ∈ ds := fun p hp => by rw [e2]; exact List.mem_map.mpr ⟨p, hp, rfl⟩
      refine ⟨l, ks, rfl, ex_l o2.ex hl, fun p hp => ⟨dp_ex o2.ex (m p hp), fit.key _ (inds p hp), fit.dep _ (inds p hp)⟩, by rw [← List.length_map (as := ks) (fun p : Addr × PyData => p.2), ← e2]; exact fit.few, fun a L ha sub all nd => ?_⟩
      have eS : Ex H2 (upd H2 a (SetDO X.prog X.w a L)) := Ex.new ha
      have s3 : Stp X.K none N H2 N (upd H2 a (SetDO X.prog X.w a L)) := o2.more eS
      have o3 := s3.okk o2
      refine ⟨a, L, hi, rfl, upd_same, fun p hp => ⟨dp_ex (o2.ex.trans eS) (m p (sub p hp)), fit.key _ (inds p (sub p hp)), fit.dep _ (inds p (sub p hp))⟩, fun p hp => fit.head _ (inds p (sub p hp)), fun p hp q hq => fit.lk _ (inds p (sub p hp)) _ (inds q (sub q hq)), fun L' p pm pw hp => ?_⟩
      have s4 := o3.new hp (Ex.new hp) (upd_same (o := .lst (L'.map fun q => V.ref q.1)))
      have nd' : (L'.map (·.2)).Nodup := (pm.map (·.2)).nodup_iff.mpr nd
      have up : Asc (L'.map (·.2)) := by
        refine List.pairwise_map.mpr (List.Pairwise.imp_of_mem (fun {x y} hx hy z => ?_) (List.Pairwise.and pw (List.pairwise_map.mp nd')))
        rcases enc_tri (fit.lk _ (inds x (sub x (pm.mem_iff.mp hx))) _ (inds y (sub y (pm.mem_iff.mp hy)))) with e | e | e
        · exact absurd e z.2
        · exact e
        · exact absurd e z.1
      have mem : ∀ x, x ∈ L'.map (·.2) ↔ x ∈ ds := fun x => by
        constructor
        · intro hx
          obtain ⟨y, hy, rfl⟩ := List.mem_map.mp hx
          exact inds y (sub y (pm.mem_iff.mp hy))
        · intro hx
          rw [e2] at hx
          obtain ⟨y, hy, rfl⟩ := List.mem_map.mp hx
          obtain ⟨z, hz, e⟩ := List.mem_map.mp (all y hy)
          rw [← e]
          exact List.mem_map.mpr ⟨z, pm.mem_iff.mpr hz, rfl⟩
      have eq : L'.map (·.2) = sortU ds := asc_uniq up (asc_sortU fit.lk) fun x => (mem x).trans (mem_sortU fit.lk).symm
      refine kf _ _ (Step.of_none c1.ok (s3.trans s4 o2)) _ ?_
      rw [← eq]
      exact .lst (sq_of upd_same) (das_of fun q hq => dp_ex s4.ex (m q (sub q (pm.mem_iff.mp hq))))
    · cases ez
  | _ => cases ez
/-! ### small things -/
theorem hr65 {A : Around} {k : Nat} (hr : Room k A) : A.units + 65 < cLine := by have := hr.un; omega
theorem r_dict : RE X (.Dict [] [] pos) (dC (.dict [])) := fun π W S1 σ M H fm s Q c k => by
  refine of_pe pe_dnewK ?_
  intro p hp
  have t := c.ok.new (ob := .dK []) hp
  have k : ∀ M' H', Step π s M H M' H' → ∀ v, Da X.K M' v (.dict []) → Q v H' := k
  exact k _ _ t _ (.emp upd_same)
theorem t_chain {o1 o2 : CmpOp} {f g : Int → Int → Bool} {a b c : Expr} {da db dc : DE} (h1 : CmpI X o1 f) (h2 : CmpI X o2 g) (ha : RE X a da) (hb : RE X b db) (hc : RE X c dc) (hm : lastMarks [o1, o2] [b, c] = false := by with_unfolding_all rfl) :
    RT X (.Compare a [o1, o2] [b, c] pos) (dB (dChain f g da db dc)) := fun π W S1 σ M H fm s Q c0 k => by
  refine of_pt (pt_chain h1 h2 (peMax a) (peMax b) (peMax c) hm) ?_
  have k := test_run c0 k
  refine ha π W S1 σ M H fm s _ c0 ((fin_bind c0.ok k).mono fun x s' M' H' t k v hv => ?_)
  have c1 := c0.step t
  refine hb π W S1 σ M' H' fm s' _ c1 ((fin_bind c1.ok k).mono fun y s2 M2 H2 t2 k w hw => ?_)
  have c2 := c1.step t2
  cases x with
  | int i =>
    cases y with
    | int j =>
      refine ⟨i, j, dp_int hv, dp_int hw, f i j, rfl, ?_⟩
      simp only at k
      cases e : f i j with
      | true =>
        rw [if_pos rfl]
        simp only [e] at k
        refine hc π W S1 σ M2 H2 fm s2 _ c2 ((fin_bind c2.ok k).mono fun z s3 M3 H3 t3 k u hu => ?_)
        cases z with
        | int q => exact ⟨j, q, dp_int hw, dp_int hu, k.ok_ (c2.step t3).ok _ (.bl _)⟩
        | _ => exact False.elim k
      | false =>
        rw [if_neg Bool.false_ne_true]
        simp only [e] at k
        exact k.ok_ c2.ok _ (.bl false)
    | _ => exact False.elim k
  | _ => exact False.elim k
/-- name = list(e), a new list of one's own -/
def dNewLs (i : Nat) (ds : DL) : DS := fun fm => (ds fm).bind fun xs => (Mo.of (gLstOf xs)).bind fun x => match x with
  | .list ys => Mo.pure (.nx (fm.set i (.own ys)))
  | _ => Mo.bad
theorem s_newLs {i : Nat} {x : Str} {e : Expr} {ds : DL} {p p2 pos' : Pos} (hN : X.N.Nodup) (hi : X.N[i]? = some x) (hx : Loc X.env.scope x) (hg : Gl X "list") (hm : X.mg "list" = none) (h : RL X [e] ds)
    (hs : swapsWith (.Call (.Name "list" p) [e] [] p2) (some (.Name x pos')) pos.line X.env = pure false := by rfl) (h1 : starEach [e] X.env = (false, eval e X.env) :: starEach [] X.env := by rfl) (h2 : (backTo p2 (starEach [] X.env)).any (·.1) = false := by rfl)
    (hf : X.fn x = true ∨ X.env.scope.names.lookup x = some .local := by first | exact .inl rfl | exact .inr rfl | assumption) : RS X (.Assign [.Name x pos'] (.Call (.Name "list" p) [e] [] p2) pos) (dNewLs i ds) := fun π W S0 S1 s0 σ M H fm s D c t k => by
  refine of_ps (ps_set hN hi hx (pe_callTy call_list_of hg hm (by decide +kernel) (paMax [e]) (by decide) (by decide) h1 h2) hs hf) ?_
  refine h π W S1 σ M H fm s _ (t.cnt c) ((fins c t k).mono fun xs s' M' H' u k vs hvs => ?_)
  have t1 := t.step c u
  have o1 := (t1.cnt c).ok
  obtain ⟨z, ez, k⟩ := fins_of k
  unfold gLstOf at ez
  split at ez
  · cases ez
    obtain ⟨v, rfl, hv⟩ := dps1 hvs
    obtain ⟨a, ys, rfl, hs, hd⟩ := dp_lst hv
    exact ⟨a, ys, rfl, .inl (ex_l o1.ex hs), fun p hp => k _ M' _ (Ex.refl _) (t1.newL c hp hd)⟩
  · cases ez
    obtain ⟨v, rfl, hv⟩ := dps1 hvs
    obtain ⟨a, ys, rfl, hs, hd⟩ := dp_tup hv
    exact ⟨a, ys, rfl, .inr (ex_t o1.ex hs), fun p hp => k _ M' _ (Ex.refl _) (t1.newL c hp hd)⟩
  · cases ez
/-- own[j] = e -/
def setAt (xs : List PyData) (y : PyData) (j : PyData) : Option (List PyData) := match j with
  | .int i => (ixN xs.length i).map fun n => xs.set n y
  | _ => none
def dIxSet (i : Nat) (d dj : DE) : DS := fun fm => (d fm).bind fun y => (Mo.of (slO fm[i]?)).bind fun xs => (dj fm).bind fun j => (Mo.of (setAt xs y j)).bind fun ys => Mo.pure (.nx (fm.set i (.own ys)))
theorem dps_set {K : PySem.W.Frag} {M : Hp} {y : PyData} {w : V} (hw : Da K M w y) : ∀ {ds : List PyData} {vs : List V} (n : Nat), DaAll K M vs ds → DaAll K M (vs.set n w) (ds.set n y)
  | [], _, n, h => by cases h; cases n <;> exact .nil
  | _ :: _, _, 0, h => by
    cases h with
    | cons h1 h2 => exact .cons hw h2
  | _ :: _, _, n + 1, h => by
    cases h with
    | cons h1 h2 => exact .cons h1 (dps_set hw n h2)
theorem s_ixSet (i : Nat) {x : Str} {e j : Expr} {d dj : DE} {p1 p3 : Pos} (h : RE X e d) (hj : RE X j dj) (hN : X.N[i]? = some x := by rfl) (hv : Vis X.env.scope x := by first | exact Or.inl rfl | exact Or.inr (Or.inl rfl) | exact Or.inr (Or.inr rfl)) (hd : (x == ("__debug__" : Str)) = false := by decide)
    (hcd : (x == ("__classdict__" : Str)) = false := by decide)
    (ha : ∀ v, assign (.Subscript (.Name x p1) j p3) X.env v = (do
      let ov ← holding [v] (eval (.Name x p1) X.env)
      let iv ← holding [v, ov] (eval j X.env)
      standAt p3
      holding [v, ov, iv] (setItem ov iv v)
      release [v, ov, iv] []) := by intro _; rfl)
    (hs : swapsWithSole [.Subscript (.Name x p1) j p3] e pos.line X.env = pure false := by rfl) (hw : swappedStores [.Subscript (.Name x p1) j p3] e X.env = pure none := by rfl)
    (h1 : (assignEach [.Subscript (.Name x p1) j p3] X.env).map (·.2) = [assign (.Subscript (.Name x p1) j p3) X.env] := by rfl) :
    RS X (.Assign [.Subscript (.Name x p1) j p3] e pos) (dIxSet i d dj) := fun π W S0 S1 s0 σ M H fm s D c t k => by
  refine of_ps (ps_asg (peMax e) (pg_sub (pe_var hN hv hd hcd) (peMax j) set_list ha) hs hw h1) ?_
  refine h π W S1 σ M H fm s _ (t.cnt c) ((fins c t k).mono fun y s' M' H' u k v hv => ?_)
  have t1 := t.step c u
  obtain ⟨xs, ex, k⟩ := fins_of k
  obtain ⟨l, vs, eσ, hl, hdl, hM, h1', hq, ei⟩ := t1.fm.own ex
  refine ⟨_, eσ, ?_⟩
  refine hj π W S1 σ M' H' fm s' _ (t1.cnt c) ((fins c t1 k).mono fun z s2 M2 H2 u2 k w hw2 => ?_)
  have t2 := t1.step c u2
  obtain ⟨ys, ey, k⟩ := fins_of k
  obtain ⟨l2, vs2, eσ2, hl2, hdl2, hM2, g1, _, _⟩ := t2.fm.own ex
  rw [eσ] at eσ2
  cases eσ2
  cases z with
  | int m =>
    unfold setAt at ey
    dsimp only at ey
    have ln := dps_len hdl2
    cases en : ixN xs.length m with
    | none => rw [en] at ey; cases ey
    | some n =>
      rw [en] at ey
      cases ey
      refine ⟨l, vs2, m, n, rfl, dp_int hw2, hl2, by rw [ln]; exact en, k σ M2 _ (Ex.refl _) ⟨t2.st.chg c.ok g1 hM2, t2.fm.chg ei eσ hl2 hM2 (dps_set (dp_ex u2.ex hv) n hdl2)⟩⟩
  | _ => cases ey
end Rf

set_option maxRecDepth 100000
set_option maxHeartbeats 4000000
/-! comprehensions of two clauses -/
namespace Rf
open PySem PySem.Spec PyProof.Rows L2 Gd Dt Dl Ee Sd
open Evl (Ex Ex.refl Ex.trans Ex.new ex_l ex_t sq_of st_of fresh_back)
variable {X : Cx} {pos : Pos}
def lc2Go (g : Gt) (t : DT) (di1 : DL) (g1 : Gt) (vs1 : List Nat) (t1 : DT) (e : DE) (fm : Fm) : List PyData → Mo (List PyData)
  | [] => Mo.pure []
  | x :: xs => (Mo.of (g x fm)).bind fun f1 => (t f1).nox.bind fun b => match b with
    | true => (di1 f1).nox.bind fun xs1 => (lcGo g1 t1 e (wipeF f1 vs1) xs1).bind fun ys => (lc2Go g t di1 g1 vs1 t1 e fm xs).bind fun zs => Mo.pure (ys ++ zs)
    | false => lc2Go g t di1 g1 vs1 t1 e fm xs
def dLcL2 (di : DL) (g : Gt) (vs : List Nat) (t : DT) (di1 : DL) (g1 : Gt) (vs1 : List Nat) (t1 : DT) (e : DE) : DL := fun fm => (di fm).bind fun xs => ((lc2Go g t di1 g1 vs1 t1 e (wipeF fm vs) xs).bind fun ys => (Mo.of (few 90000 ys ())).bind fun _ => Mo.pure ys).nox
def dLc2 (di : DL) (g : Gt) (vs : List Nat) (t : DT) (di1 : DL) (g1 : Gt) (vs1 : List Nat) (t1 : DT) (e : DE) : DE := fun fm => (dLcL2 di g vs t di1 g1 vs1 t1 e fm).bind fun ys => Mo.pure (.list ys)
theorem lc2Go_cons {g g1 : Gt} {t t1 : DT} {di1 : DL} {vs1 : List Nat} {e : DE} {fm : Fm} {x : PyData} {xs ys : List PyData} {s sL : Ps} (h : lc2Go g t di1 g1 vs1 t1 e fm (x :: xs) s = .ok ys sL) :
    ∃ f1 b s2, g x fm = some f1 ∧ t f1 s = .ok b s2 ∧ (b = true → ∃ xs1 s3 us s4 zs, di1 f1 s2 = .ok xs1 s3 ∧ lcGo g1 t1 e (wipeF f1 vs1) xs1 s3 = .ok us s4 ∧ lc2Go g t di1 g1 vs1 t1 e fm xs s4 = .ok zs sL ∧ ys = us ++ zs) ∧ (b = false → lc2Go g t di1 g1 vs1 t1 e fm xs s2 = .ok ys sL) := by
  unfold lc2Go at h
  obtain ⟨f1, s1, h1, hA⟩ := bind_ok h
  have hz := of_ok h1
  rw [hz.2] at hA
  obtain ⟨b, s2, h2, hB⟩ := bind_ok hA
  refine ⟨f1, b, s2, hz.1, nox_ok h2, fun e => ?_, fun e => ?_⟩
  · subst e
    obtain ⟨xs1, s3, h3, hC⟩ := bind_ok hB
    obtain ⟨us, s4, h4, hD⟩ := bind_ok hC
    obtain ⟨zs, s5, h5, hE⟩ := bind_ok hD
    cases hE
    exact ⟨xs1, s3, us, s4, zs, nox_ok h3, h4, h5, rfl⟩
  · subst e
    exact hB
def wiB (X : Cx) (scope : Scope) (tg iter : Expr) : TI := fun σ H R => ∀ (s : Shared) (H0 : Hp) (C : Addr) (cl : List (Str × Addr)) (fp : List Addr), iMax (X.blk s H0 scope (compEnvC scope cl C X.env) fp) tg iter σ H R
theorem piB {scope : Scope} {tg iter : Expr} (s : Shared) (H : Hp) (C : Addr) (cl : List (Str × Addr)) (fp : List Addr) : PI (X.blk s H scope (compEnvC scope cl C X.env) fp) tg iter (wiB X scope tg iter) := ⟨fun pins sh σ H' R I h => piMax.run pins sh σ H' R I (h s H C cl fp)⟩
theorem lc2_run {elt tg iter tg1 iter1 : Expr} {ifs ifs1 : List Expr} {scope : Scope} {own : List (Str × Nat)} {vs1 : List Nat} {gt gt1 : TG} {js js1 : List Nat} {g g1 : Gt} {di di1 : DL} {dt dt1 : DT} {de : DE} (hi : RI X tg iter di) (hv : ∀ i ∈ vs1, i ∈ own.map (·.2)) (hT : TgOk X.K gt js g) (hjs : ∀ j ∈ js, j ∈ own.map (·.2))
    (ht : ∀ (s : Shared) (H : Hp) (C : Addr) (cl : List (Str × Addr)) (fp : List Addr), RC (X.blk s H scope (compEnvC scope cl C X.env) fp) ifs dt)
    (hi1 : ∀ (s : Shared) (H : Hp) (C : Addr) (cl : List (Str × Addr)) (fp : List Addr), RI (X.blk s H scope (compEnvC scope cl C X.env) fp) tg1 iter1 di1)
    (hT1 : TgOk X.K gt1 js1 g1) (hjs1 : ∀ j ∈ js1, j ∈ vs1)
    (ht1 : ∀ (s : Shared) (H : Hp) (C : Addr) (cl : List (Str × Addr)) (fp : List Addr), RC (X.blk s H scope (compEnvC scope cl C X.env) fp) ifs1 dt1)
    (he : ∀ (s : Shared) (H : Hp) (C : Addr) (cl : List (Str × Addr)) (fp : List Addr), RE (X.blk s H scope (compEnvC scope cl C X.env) fp) elt de)
    {π : Option Pen} {W : WX} {S1 : Hp} {σ : L2.St} {M H : Hp} {fm : Fm} {s : Ps} {Q : VK} (c : Cnt X π W S1 σ M H fm s)
    (k : Fin X π W σ M H (fun L _ M' H' => ∀ D accV, H D = none → M' D = none → H' D = some (.lst accV) → DaAll X.K M' accV L → Q (.ref D) H') (dLcL2 di g (own.map (·.2)) dt di1 g1 vs1 dt1 de fm s)) :
    tLc2 (iMax X tg iter) gt (ttB X scope ifs) (wiB X scope tg1 iter1) gt1 (ttB X scope ifs1) (teB X scope elt) (own.map (·.2)) vs1 σ H Q := by
  refine hi π W S1 σ M H fm s _ c ((fin_bind c.ok k).mono fun xs s' N H2 t k J wk D hD => ?_)
  have c1 := c.step t
  obtain ⟨L, sL, eL0, kf⟩ := fin_nox k
  obtain ⟨L', s1', eL, eL1⟩ := bind_ok eL0
  obtain ⟨_, s2', ef, eL2⟩ := bind_ok eL1
  have hfew := (few_of (of_ok ef).1).1
  have es := (of_ok ef).2
  subst es
  cases eL2
  have nD : N D = none := fresh_back c1.ok.ex hD
  have hD0 : H D = none := t.young c.ok hD
  have neD : ∀ q, π = some q → D ≠ q.p := fun q hq z => by
    rw [z] at hD
    rw [(c1.ok.pen q hq).2.1] at hD
    cases hD
  let Inv := fun (i : Nat) (H : Hp) => ∃ (M : Hp) (acc : List PyData) (accV : List V) (si : Ps) (ys : List PyData), M D = none ∧ Step π si N H2 M H ∧ H D = some (.lst accV) ∧ DaAll X.K M accV acc ∧ lc2Go g dt di1 g1 vs1 dt1 de (wipeF fm (own.map (·.2))) (xs.drop i) si = .ok ys sL ∧ acc ++ ys = L
  refine ⟨fun i m H => m = xs.length - i ∧ i ≤ xs.length ∧ Inv i H, ⟨xs.length, by simp, Nat.zero_le _, ?_⟩, ?_⟩
  · exact ⟨N, [], [], s', L, nD, c1.ok.step.mut c1.ok hD nD, upd_same, .nil, eL, rfl⟩
  rintro i m H ⟨rfl, hi', M, acc, accV, si, ys, mD, sM, hDH, hacc, eG, eA⟩
  have oM := sM.ok c1.ok
  by_cases hlt : i < xs.length
  · refine .inr ⟨wk.go i M H sM.ex oM.none hlt, Inv (i + 1), fun H' p' => ⟨xs.length - (i + 1), by omega, rfl, hlt, p'⟩, fun x H' hy => ?_⟩
    obtain ⟨M', d, ed, s1, kd⟩ := wk.yld i M H x H' sM.ex oM.none hlt hy
    have s1 := Step.of_none oM s1
    have o1 := s1.ok oM
    have m1D := s1.out mD (by rw [hDH]; exact fun z => by cases z)
    have h1D : H' D = some (.lst accV) := s1.off _ _ neD hDH
    have dropE : xs.drop i = d :: xs.drop (i + 1) := by
      rw [List.drop_eq_getElem_cons hlt]
      have := List.getElem?_eq_getElem hlt
      rw [ed] at this
      rw [Option.some.inj this]
    rw [dropE] at eG
    obtain ⟨f1, b, s2, eg, et, hT1', hF1⟩ := lc2Go_cons eG
    have fW := ((c1.fm.step sM).step s1).wipe (own.map (·.2))
    refine hT.run π S1 x d M' H' _ _ f1 _ kd o1.ex fW eg fun σ' f' wz ob => ⟨(wz _ hjs).trans (wipe_in fun j hj => hj), fun sh Hz C cl fp => ?_⟩
    refine ht sh Hz C cl fp π W0 S1 σ' M' H' f1 si _ ⟨takes0, o1, f'⟩ ?_
    rw [et]
    intro M2 H3 t2
    have o2 := t2.ok o1
    have m2D := t2.out m1D (by rw [h1D]; exact fun z => by cases z)
    have h2D : H3 D = some (.lst accV) := t2.off _ _ neD h1D
    have S2 := (sM.trans s1 c1.ok).trans t2 c1.ok
    cases b with
    | false =>
      show Inv (i + 1) H3
      exact ⟨M2, acc, accV, s2, ys, m2D, S2, h2D, dps_ex (s1.ex.trans t2.ex) hacc, hF1 rfl, eA⟩
    | true =>
      obtain ⟨xs1, s3, us, s4, zs, ex1, eu, ez, eq⟩ := hT1' rfl
      rw [if_pos rfl]
      intro sh Hz C cl fp
      refine hi1 sh Hz C cl fp π W0 S1 σ' M2 H3 f1 s2 _ ⟨takes0, o2, f'.step t2⟩ ?_
      rw [ex1]
      intro N1 H4 t3 J1 wk1
      have o3 := t3.ok o2
      have m3D := t3.out m2D (by rw [h2D]; exact fun z => by cases z)
      have h3D : H4 D = some (.lst accV) := t3.off _ _ neD h2D
      have S3 := S2.trans t3 c1.ok
      have f3 : FmOk X.K π S1 σ' N1 H4 f1 := (f'.step t2).step t3
      let Inv1 := fun (j : Nat) (H : Hp) => ∃ (M : Hp) (acc : List PyData) (accV : List V) (sj : Ps) (ws : List PyData), Ex N1 M ∧ M D = none ∧ Step π sj N H2 M H ∧ H D = some (.lst accV) ∧ DaAll X.K M accV acc ∧ FmOk X.K π S1 (wipe σ' vs1) M H (wipeF f1 vs1) ∧ lcGo g1 dt1 de (wipeF f1 vs1) (xs1.drop j) sj = .ok ws s4 ∧ acc ++ (ws ++ zs) = L
      refine ⟨fun j m H => m = xs1.length - j ∧ j ≤ xs1.length ∧ Inv1 j H, ⟨xs1.length, by simp, Nat.zero_le _, ?_⟩, ?_⟩
      · exact ⟨N1, acc, accV, s3, us, Ex.refl _, m3D, S3, h3D, dps_ex ((s1.ex.trans t2.ex).trans t3.ex) hacc, f3.wipe vs1, eu, by rw [← eA, eq]⟩
      rintro j m Hj ⟨rfl, hj', Mj, accj, accVj, sj, ws, e1, mjD, sj1, hjD, hj2, fj, eGj, eAj⟩
      have oj := sj1.ok c1.ok
      by_cases hjt : j < xs1.length
      · refine .inr ⟨wk1.go j Mj Hj e1 oj.none hjt, Inv1 (j + 1), fun H' p' => ⟨xs1.length - (j + 1), by omega, rfl, hjt, p'⟩, fun x1 H5 hy1 => ?_⟩
        obtain ⟨M5, d1, ed1, u1, kd1⟩ := wk1.yld j Mj Hj x1 H5 e1 oj.none hjt hy1
        have u1 := Step.of_none oj u1
        have o5 := u1.ok oj
        have m5D := u1.out mjD (by rw [hjD]; exact fun z => by cases z)
        have h5D : H5 D = some (.lst accVj) := u1.off _ _ neD hjD
        have dropE1 : xs1.drop j = d1 :: xs1.drop (j + 1) := by
          rw [List.drop_eq_getElem_cons hjt]
          have := List.getElem?_eq_getElem hjt
          rw [ed1] at this
          rw [Option.some.inj this]
        rw [dropE1] at eGj
        obtain ⟨f5, b1, s5, eg5, et5, hT5, hF5⟩ := lcGo_cons eGj
        have fj5 := fj.step u1
        refine hT1.run π S1 x1 d1 M5 H5 _ _ f5 _ kd1 o5.ex fj5 eg5 fun σ5 f5' wz5 _ => ⟨(wz5 _ hjs1).trans (wipe_in fun j hj => hj), fun sh Hz C cl fp => ?_⟩
        refine ht1 sh Hz C cl fp π W0 S1 σ5 M5 H5 f5 sj _ ⟨takes0, o5, f5'⟩ ?_
        rw [et5]
        intro M6 H6 t6
        have o6 := t6.ok o5
        have m6D := t6.out m5D (by rw [h5D]; exact fun z => by cases z)
        have h6D : H6 D = some (.lst accVj) := t6.off _ _ neD h5D
        have S6 := (sj1.trans u1 c1.ok).trans t6 c1.ok
        have f6 : FmOk X.K π S1 (wipe σ' vs1) M6 H6 (wipeF f1 vs1) := (fj5.step t6)
        cases b1 with
        | false =>
          show Inv1 (j + 1) H6
          exact ⟨M6, accj, accVj, s5, ws, e1.trans (u1.ex.trans t6.ex), m6D, S6, h6D, dps_ex (u1.ex.trans t6.ex) hj2, f6, hF5 rfl, eAj⟩
        | true =>
          obtain ⟨y, s7, zs7, ey, ez7, eq7⟩ := hT5 rfl
          rw [if_pos rfl]
          intro sh Hz C cl fp
          refine he sh Hz C cl fp π W0 S1 σ5 M6 H6 f5 s5 _ ⟨takes0, o6, f5'.step t6⟩ ?_
          rw [ey]
          intro M7 H7 t7 yv ky
          have m7D := t7.out m6D (by rw [h6D]; exact fun z => by cases z)
          have h7D : H7 D = some (.lst accVj) := t7.off _ _ neD h6D
          have S7 := S6.trans t7 c1.ok
          have hl := dps_len hj2
          have hlen : accj.length ≤ L.length := by rw [← eAj, List.length_append]; omega
          have f7 := f6.step t7
          -- the list under way is none of the frame's
          have f8 : FmOk X.K π S1 (wipe σ' vs1) M7 (upd H7 D (.lst (accVj ++ [yv]))) (wipeF f1 vs1) := by
            refine ⟨f7.len, fun i x e => ?_, f7.apart⟩
            obtain ⟨o, q1, q2⟩ := f7.at_ i x e
            refine ⟨o, q1, ?_⟩
            cases x with
            | own xs0 =>
              obtain ⟨l, vs0, rfl, g1', g2', g3', g4', g5'⟩ := q2
              have ne : l ≠ D := fun z => by
                subst z
                obtain ⟨r1, r2⟩ := ((ownSub_wipe vs1).trans (ob.trans (ownSub_wipe (own.map (·.2))))) i xs0 e
                obtain ⟨o0, r3, l0, vs0', r4, r5, _⟩ := c1.fm.at_ i _ r1
                rw [r2, r3] at q1
                cases q1
                cases r4
                rw [hD] at r5
                cases r5
              exact ⟨l, vs0, rfl, by rw [upd_ne ne]; exact g1', g2', g3', g4', g5'⟩
            | no => trivial
            | d x => exact q2
            | pen ns => exact q2
            | exc _ _ => trivial
          refine ⟨accVj, h7D, Evl.sz_lt (by omega), M7, accj ++ [y], accVj ++ [yv], s7, zs7, e1.trans (u1.ex.trans (t6.ex.trans t7.ex)), m7D, S7.mut c1.ok hD m7D, upd_same, ?_, f8, ez7, by rw [← eAj, eq7]; simp⟩
          exact dps_app (dps_ex (u1.ex.trans (t6.ex.trans t7.ex)) hj2) (.cons ky .nil)
      · have e : j = xs1.length := by omega
        subst e
        rw [List.drop_length] at eGj
        have eG2 : ws = [] ∧ sj = s4 := by cases eGj; exact ⟨rfl, rfl⟩
        obtain ⟨rfl, rfl⟩ := eG2
        refine .inl ⟨wk1.stop Mj Hj e1 oj.none, ?_⟩
        show Inv (i + 1) Hj
        exact ⟨Mj, accj, accVj, sj, zs, mjD, sj1, hjD, hj2, ez, by simpa using eAj⟩
  · have e : i = xs.length := by omega
    subst e
    refine .inl ⟨wk.stop M H sM.ex oM.none, ?_⟩
    rw [List.drop_length] at eG
    have eG2 : ys = [] ∧ si = sL := by cases eG; exact ⟨rfl, rfl⟩
    obtain ⟨rfl, rfl⟩ := eG2
    rw [List.append_nil] at eA
    subst eA
    exact kf _ _ sM D accV hD0 mD hDH hacc

theorem r_lc2 {elt tg iter tg1 iter1 : Expr} {ifs ifs1 : List Expr} {scope : Scope} {own : List (Str × Nat)} {vs1 : List Nat} {gt gt1 : TG} {js js1 : List Nat} {g g1 : Gt} {di di1 : DL} {dt dt1 : DT} {de : DE} (hc : X.calm = true) (hN : X.N.Nodup) (hi : RI X tg iter di) (ok : BlkOk X.N X.env.scope scope own) (hv : ∀ i ∈ vs1, i ∈ own.map (·.2))
    (hg : ∀ (s : Shared) (H : Hp) (C : Addr) (cl : List (Str × Addr)) (fp : List Addr), PG (X.blk s H scope (compEnvC scope cl C X.env) fp) tg gt) (hT : TgOk X.K gt js g) (hjs : ∀ j ∈ js, j ∈ own.map (·.2))
    (ht : ∀ (s : Shared) (H : Hp) (C : Addr) (cl : List (Str × Addr)) (fp : List Addr), RC (X.blk s H scope (compEnvC scope cl C X.env) fp) ifs dt)
    (hi1 : ∀ (s : Shared) (H : Hp) (C : Addr) (cl : List (Str × Addr)) (fp : List Addr), RI (X.blk s H scope (compEnvC scope cl C X.env) fp) tg1 iter1 di1)
    (hg1 : ∀ (s : Shared) (H : Hp) (C : Addr) (cl : List (Str × Addr)) (fp : List Addr), PG (X.blk s H scope (compEnvC scope cl C X.env) fp) tg1 gt1)
    (hT1 : TgOk X.K gt1 js1 g1) (hjs1 : ∀ j ∈ js1, j ∈ vs1)
    (ht1 : ∀ (s : Shared) (H : Hp) (C : Addr) (cl : List (Str × Addr)) (fp : List Addr), RC (X.blk s H scope (compEnvC scope cl C X.env) fp) ifs1 dt1)
    (he : ∀ (s : Shared) (H : Hp) (C : Addr) (cl : List (Str × Addr)) (fp : List Addr), RE (X.blk s H scope (compEnvC scope cl C X.env) fp) elt de)
    (hs : ∀ x, foldedSetIterable iter X.env x = pure x := by intro _; rfl) (hs1 : ∀ env x, foldedSetIterable iter1 env x = pure x := by intro _ _; rfl) :
    RE X (.ListComp elt [⟨tg, iter, ifs, 0⟩, ⟨tg1, iter1, ifs1, 0⟩] scope pos) (dLc2 di g (own.map (·.2)) dt di1 g1 vs1 dt1 de) := fun π W S1 σ M H fm s Q c k =>
  of_pe (pe_lc2 hc hN piMax ok hv hg ptB piB hg1 ptB peB hs hs1) (lc2_run hi hv hT hjs ht hi1 hT1 hjs1 ht1 he c (fin_own k))
theorem rf_lc2 {elt tg iter tg1 iter1 : Expr} {ifs ifs1 : List Expr} {scope : Scope} {own : List (Str × Nat)} {vs1 : List Nat} {gt gt1 : TG} {js js1 : List Nat} {g g1 : Gt} {di di1 : DL} {dt dt1 : DT} {de : DE} (hc : X.calm = true) (hN : X.N.Nodup) (hi : RI X tg iter di) (ok : BlkOk X.N X.env.scope scope own) (hv : ∀ i ∈ vs1, i ∈ own.map (·.2))
    (hg : ∀ (s : Shared) (H : Hp) (C : Addr) (cl : List (Str × Addr)) (fp : List Addr), PG (X.blk s H scope (compEnvC scope cl C X.env) fp) tg gt) (hT : TgOk X.K gt js g) (hjs : ∀ j ∈ js, j ∈ own.map (·.2))
    (ht : ∀ (s : Shared) (H : Hp) (C : Addr) (cl : List (Str × Addr)) (fp : List Addr), RC (X.blk s H scope (compEnvC scope cl C X.env) fp) ifs dt)
    (hi1 : ∀ (s : Shared) (H : Hp) (C : Addr) (cl : List (Str × Addr)) (fp : List Addr), RI (X.blk s H scope (compEnvC scope cl C X.env) fp) tg1 iter1 di1)
    (hg1 : ∀ (s : Shared) (H : Hp) (C : Addr) (cl : List (Str × Addr)) (fp : List Addr), PG (X.blk s H scope (compEnvC scope cl C X.env) fp) tg1 gt1)
    (hT1 : TgOk X.K gt1 js1 g1) (hjs1 : ∀ j ∈ js1, j ∈ vs1)
    (ht1 : ∀ (s : Shared) (H : Hp) (C : Addr) (cl : List (Str × Addr)) (fp : List Addr), RC (X.blk s H scope (compEnvC scope cl C X.env) fp) ifs1 dt1)
    (he : ∀ (s : Shared) (H : Hp) (C : Addr) (cl : List (Str × Addr)) (fp : List Addr), RE (X.blk s H scope (compEnvC scope cl C X.env) fp) elt de)
    (hs : ∀ x, foldedSetIterable iter X.env x = pure x := by intro _; rfl) (hs1 : ∀ env x, foldedSetIterable iter1 env x = pure x := by intro _ _; rfl) :
    RF X (.ListComp elt [⟨tg, iter, ifs, 0⟩, ⟨tg1, iter1, ifs1, 0⟩] scope pos) (dLcL2 di g (own.map (·.2)) dt di1 g1 vs1 dt1 de) := fun π W S1 σ M H fm s Q c k =>
  of_pe (pe_lc2 hc hN piMax ok hv hg ptB piB hg1 ptB peB hs hs1) (lc2_run hi hv hT hjs ht hi1 hT1 hjs1 ht1 he c k)
end Rf

set_option maxRecDepth 100000
set_option maxHeartbeats 4000000
namespace Rf
open PySem PySem.Spec PyProof.Rows L2
/-- the built-ins stand under their names -/
structure Blts (mg : Str → Option Value) : Prop where
  len : mg "len" = none
  int : mg "int" = none
  list : mg "list" = none
  tuple : mg "tuple" = none
  repr : mg "repr" = none
  range : mg "range" = none
  zip : mg "zip" = none
  all : mg "all" = none
  any : mg "any" = none
  enumerate : mg "enumerate" = none
  isinstance : mg "isinstance" = none
  bool : mg "bool" = none
  str : mg "str" = none
  sorted : mg "sorted" = none
  set : mg "set" = none
  max : mg "max" = none
  sum : mg "sum" = none
  ValueError : mg "ValueError" = none
  RuntimeError : mg "RuntimeError" = none
  LookupError : mg "LookupError" = none
  OverflowError : mg "OverflowError" = none
/-- turns of a while loop, at most -/
abbrev WN : Nat := 5000
end Rf

set_option maxRecDepth 100000
set_option maxHeartbeats 4000000
/-! errors: raised -/
namespace Rf
open PySem PySem.Spec PyProof.Rows L2 Gd Dt Dl Ee Sd
open Evl (Ex Ex.refl Ex.trans Ex.new ex_l ex_t sq_of st_of fresh_back)
variable {X : Cx} {pos : Pos}
/-- the end of C(..) where the error has no dict: it is let go -/
theorem mk_endN {pins : List (Addr × Obj)} {σ : L2.St} {H1 H2 : Hp} {Q : XK} {hp hp2 h2 : Heap} {g1 g2 : Array GenState} {d1 d2 : Drawn} {t1 t2 : Nat} {os1 os2 : OsState} {a C : Addr} (T : Raises X (.ref C)) (I1 : Inv X pins σ H1 ⟨hp, g1, d1, t1, os1⟩)
    (ha : hp.objs.size ≤ a) (k : ∀ b o, hp.get? b = some o → hp2.get? b = some o) (un : Un (frs X.stack) [] (upd H1 a (exo a C none)) H2 hp2 h2) (hok : HOk X.prog X.w H2 h2) (ho : os2 = os1) (hb : AllBare g2)
    (ea : H2 a = some (exo a C none)) (q : Q (.ref C) none (del H2 a)) : MkP X pins σ Q (.ref a) ⟨h2, g2, d2, t2, os2⟩ := by
  obtain ⟨t0, hoe⟩ := exo_at hok ea
  have hn : H1 a = none := I1.hok.fresh ha
  obtain ⟨G, g1', g2'⟩ := restrict h2 fun b => decide (b ≠ a)
  have gk : ∀ b, b ≠ a → G.get? b = h2.get? b := fun b hb => g1' b (decide_eq_true hb)
  have ge : G.get? a = none := g2' a (by simp)
  have nha : ∀ {b : Addr} {o : Obj}, hp.get? b = some o → b ≠ a := fun {b o} z => Nat.ne_of_lt (Nat.lt_of_lt_of_le (Heap.lt_size z) ha)
  have up : ∀ {b : Addr}, b ≠ a → H1 b = none → upd H1 a (exo a C none) b = none := fun {b} hb n => by rw [upd_ne hb]; exact n
  have U : Un (frs X.stack) [] H1 (del H2 a) hp G := {
    keep := fun b o z n hf hx => by
      rw [gk b (nha z)]
      exact un.keep b o (k b o z) (up (nha z) n) hf hx
    slot := fun b o z n hf hx => by
      rw [gk b (nha z)]
      exact un.slot b o (k b o z) (up (nha z) n) hf hx
    free := fun b o z n hx => by
      rw [del_ne (nha z)]
      exact un.free b o (k b o z) (up (nha z) n) hx
    there := fun b o z hx => by
      rw [gk b (nha z)]
      exact un.there b o (k b o z) hx
    tups := fun b xs z => by
      rw [del_ne (ne_of_none z hn)]
      exact un.tups b xs (by rw [upd_ne (ne_of_none z hn)]; exact z)
    frzs := fun b o v z => by
      rw [del_ne (ne_of_none z hn)]
      exact un.frzs b o v (by rw [upd_ne (ne_of_none z hn)]; exact z)
    tbls := fun b ps z => by
      rw [del_ne (ne_of_none z hn)]
      exact un.tbls b ps (by rw [upd_ne (ne_of_none z hn)]; exact z) }
  have hok3 : HOk X.prog X.w (del H2 a) G := fun b o z => by
    have hba : b ≠ a := fun e => by
      rw [e, del_same] at z
      cases z
    rw [del_ne hba] at z
    have noa : ∀ {c : Addr}, H2 c = some (.own b) → c ≠ a := fun {c} hc => at_ne ea hc exo_own
    exact (hok b o z).stay (fun c v hc y => by
        have hca : c ≠ a := by
          rcases hc with hc | hc
          · rw [hc]
            exact hba
          · exact noa hc
        rw [gk c hca]
        exact y)
      (fun c hc => by rw [del_ne (noa hc)]; exact hc) (fun c xs hc => by rw [del_ne (at_ne ea hc exo_tup)]; exact hc)
  have J : Inv X pins σ (del H2 a) ⟨G, g2, d2, t2, os2⟩ := I1.call' (ch := []) ho U hok3 hb (fun b z => absurd z (by simp))
  refine ⟨a, _, _, ⟨G, g2, d2, t2, os2⟩, _, .ref C, none, rfl, J, fun b o z => ?_, ge, hoe, ⟨rfl, rfl⟩, rfl, rfl, by rw [del_same], rfl, hb, T, q⟩
  by_cases hba : b = a
  · rw [hba, ge] at z
    cases z
  · exact (gk b hba).symm.trans z
theorem mk_run {pins : List (Addr × Obj)} {σ : L2.St} {H : Hp} {s : Shared} {Q : XK} {us : List Value} {vs : List V} {C fI : Addr} {fd : FuncData} {ps : List Str} {sp : Sp} {k : Nat} (T : ErrC X.K C) (ty : PySem.W.typeIn X.K (.ref C) = some (.type "type"))
    (iC : PySem.W.findIn X.K (.ref C) "__init__" = some (some (.ref fI))) (tI : PySem.W.typeIn X.K (.ref fI) = some (.type "function")) (F : FnOk X.prog X.w X.K X.mg X.base CX0 k fI fd ps sp) (hr : Room (k + 1) X.A) (hb : L2.Binds X.K fd ps [])
    (I : Inv X pins σ H s) (r : Vals vs us) (hz : vs.length ≤ 1000)
    (h : ∀ a, H a = none → sp (.ref a :: vs) (upd H a (exo a C none)) (fun v H2 => v = .non ∧ ((∃ (d : Addr) (fs : List (Str × V)), H2 a = some (exo a C (some d)) ∧ H2 d = some (exd d fs) ∧ H d = none ∧ Q (.ref C) (some d) (upd (del H2 a) d (.xd fs))) ∨
      (H2 a = some (exo a C none) ∧ Q (.ref C) none (del H2 a)))) E0) : wpAny (model X.prog X.w) X.A (call (.ref C) us) (MkP X pins σ Q) X.xe s := by
  obtain ⟨nm, q, N, bs, sn, sub, ab, col, dd, k0, k1, k2, k3, k5, Bn, newId, initId, mB, hC, FB, SF⟩ := T.cls
  obtain ⟨hp, gs, dr, tt, os⟩ := s
  have hsz : hp.objs.size ≤ hp.objs.size + 1 := Nat.le_succ _
  have hq := h (hp.objs.size + 1) (I.hok.fresh hsz)
  have kk : ∀ b o, hp.get? b = some o → ((hp.push (PySem.W.kdv_tup us)).push (PySem.HandSPX.excO C hp.objs.size)).get? b = some o := fun b o e => Heap.get?_push_of_some _ (Heap.get?_push_of_some _ e)
  have hat : ((hp.push (PySem.W.kdv_tup us)).push (PySem.HandSPX.excO C hp.objs.size)).get? (hp.objs.size + 1) = some (PySem.HandSPX.excO C hp.objs.size) := by heap_get
  have I2 : Inv X pins σ (upd H (hp.objs.size + 1) (exo (hp.objs.size + 1) C none)) ⟨(hp.push (PySem.W.kdv_tup us)).push (PySem.HandSPX.excO C hp.objs.size), gs, dr, tt, os⟩ :=
    I.laid (t' := tt) (a := hp.objs.size + 1) (o := exo (hp.objs.size + 1) C none) (h' := (hp.push (PySem.W.kdv_tup us)).push (PySem.HandSPX.excO C hp.objs.size)) kk hsz (exo_ok hat)
  have r1 : Vals (V.ref (hp.objs.size + 1) :: vs) (Value.ref (hp.objs.size + 1) :: us) := .cons rfl r
  have hus : us.length ≤ sizeLine := by
    rw [← r.length, sizeLine_eq]
    omega
  have hl : (Value.ref (hp.objs.size + 1) :: us ++ []).length = ps.length := by
    rw [List.append_nil]
    have e := r1.length
    rw [F.len _ _ _ _ hq] at e
    exact e.symm
  have hbt := hb _ (Value.ref (hp.objs.size + 1) :: us) I2.kIn hl
  rw [List.append_nil] at hbt
  refine wpAny_call (made FB (I.kIn _ _ hC) (PySem.W.looks_findIn I.kIn iC) (fun self => PySem.W.bind_fn I.kIn self tI) hus
    (codeAny_mono (F.run _ X.stack _ _ ⟨Value.ref (hp.objs.size + 1) :: us, []⟩ (Value.ref (hp.objs.size + 1) :: us) _ _ E0 (hr.make C us []) (I2.env0.make C us []) hbt r1 hq) fun r s' hq' => ?_))
  cases r with
  | error er => exact hq'.elim
  | ok fl =>
    cases fl with
    | ret u =>
      obtain ⟨v, H2, os2, bare2, un2, hok2, rv, ev, q2⟩ := hq'
      subst ev
      obtain ⟨h2, g2, d2, t2, os'⟩ := s'
      rcases q2 with ⟨d, fs, ea, ed, hd1, q2⟩ | ⟨ea, q2⟩
      · exact ⟨rv, mk_end (raises_own T.exC ty) I hsz kk un2 hok2 os2 bare2 ea ed hd1 q2⟩
      · exact ⟨rv, mk_endN (raises_own T.exC ty) I hsz kk un2 hok2 os2 bare2 ea q2⟩
    | next => exact False.elim hq'
    | brk => exact False.elim hq'
    | cont => exact False.elim hq'
/-- an expression that makes an error of the class x -/
def MkS (X : Cx) (x : Str) (fs : List Str) (e : Expr) (ds : DL) : Prop := ∀ (π : Option Pen) (W : WX) (S1 : Hp) (σ : L2.St) (M H : Hp) (fm : Fm) (s : Ps) (Q : XK), Cnt X π W S1 σ M H fm s →
  Fin X π W σ M H (fun xs s' M' H' => xs.length = fs.length ∧ ∀ cls dd M2 H2, Step π s' M' H' M2 H2 → ExRep X.mg X.K x (fs.zip xs) cls dd M2 H2 → Q cls dd H2) (ds fm s) →
    ∀ pins sh, Inv X pins σ H sh → wpAny (model X.prog X.w) X.A (eval e X.env) (MkP X pins σ Q) X.xe sh
def dRaise (c : Str) (fs : List Str) (ds : DL) : DS := fun fm => (ds fm).bind fun xs => if xs.length = fs.length then Mo.raise c (fs.zip xs) else Mo.bad
theorem s_raise {x : Str} {fs : List Str} {e : Expr} {ds : DL} (hc : X.calm = true) (h : MkS X x fs e ds) : RS X (.Raise (some e) none pos) (dRaise x fs ds) := fun π W S0 S1 s0 σ M H fm s D c t k => by
  refine of_ps (ps_raise hc c.tk (t := fun σ H Q => ∀ pins sh, Inv X pins σ H sh → wpAny (model X.prog X.w) X.A (eval e X.env) (MkP X pins σ Q) X.xe sh) (fun pins s σ H Q I h => h pins s I)) ?_
  intro pins sh I
  refine h π W S1 σ M H fm s _ (t.cnt c) ((fins c t k).mono fun xs s' M' H' u k => ?_) pins sh I
  by_cases hn : xs.length = fs.length
  · rw [if_pos hn] at k
    exact ⟨hn, fun cls dd M2 H2 u2 r => k cls dd σ M2 H2 (((t.step c u).step c u2).st) r⟩
  · rw [if_neg hn] at k
    exact k.elim
section
variable {x f g : Str} {C : Addr} {mB : List Value} {e e2 : Expr} {ds : DL} {p : Pos}
theorem del_upd {H1 : Hp} {a : Addr} {o : HO} (ha : H1 a = none) : del (upd H1 a o) a = H1 := by
  funext b
  unfold upd del
  by_cases e2 : b = a
  · rw [if_pos e2, e2, ha]
  · simp [e2]
theorem mk_E0 (c : Err X.prog X.w X.K X.mg X.base x C mB [] sp0) (hr : Room 2 X.A) (hg : Gl X x) (hdb : (x == ("__debug__" : Str)) = false := by decide) : MkS X x [] (.Call (.Name x p) [] [] pos) dNil := fun π W S1 σ M H fm s Q cn k pins sh I => by
  obtain ⟨fI, fd, h1, h2, h3, h4, _⟩ := c.init
  refine wpAny_Call_Name_kw (ld_glob I hg c.at_ ?_ hdb)
  refine PySem.W.callWith_K0 I.kIn c.T.kC (mk_run (us := []) (vs := []) c.T c.ty h1 h2 h3 hr h4 I .nil (Nat.zero_le _) fun a ha => ?_)
  refine ⟨a, rfl, rfl, .inr ⟨upd_same, ?_⟩⟩
  rw [del_upd ha]
  exact (k.ok_ cn.ok).2 _ _ M H cn.ok.step ⟨C, rfl, c.at_, .inl ⟨rfl, rfl⟩⟩
theorem mk_E1 (c : Err X.prog X.w X.K X.mg X.base x C mB [f] (sp1 C f)) (hr : Room 2 X.A) (hg : Gl X x) (ha : RL X [e] ds) (hdb : (x == ("__debug__" : Str)) = false := by decide)
    (he : starEach [e] X.env = (false, eval e X.env) :: starEach [] X.env := by rfl) (hpl : (backTo pos (starEach [] X.env)).any (·.1) = false := by rfl) : MkS X x [f] (.Call (.Name x p) [e] [] pos) ds := fun π W S1 σ M H fm s Q cn k pins sh I => by
  obtain ⟨fI, fd, h1, h2, h3, h4, _⟩ := c.init
  refine wpAny_Call_Name_kw (ld_glob I hg c.at_ ?_ hdb)
  refine PySem.W.callWith_K (h₀ := X.base) I.ok.mod.kin c.T.kC (thn ((paMax [e]).run pos pins sh σ H (fun vs H1 => vs.length ≤ 1000 ∧ ∀ a, H1 a = none → sp1 C f (.ref a :: vs) (upd H1 a (exo a C none)) (fun v H2 => v = .non ∧ ((∃ (d : Addr) (fs : List (Str × V)), H2 a = some (exo a C (some d)) ∧ H2 d = some (exd d fs) ∧ H1 d = none ∧ Q (.ref C) (some d) (upd (del H2 a) d (.xd fs))) ∨
      (H2 a = some (exo a C none) ∧ Q (.ref C) none (del H2 a)))) E0) I ?_) fun us s1 ⟨vs, H1, I1, r, hz, q⟩ => ⟨I1.kIn, mk_run c.T c.ty h1 h2 h3 hr h4 I1 r hz q⟩) he hpl
  refine ha π W S1 σ M H fm s _ cn (k.mono fun xs s' M' H' t k vs hvs => ?_)
  have o1 := (cn.step t).ok
  obtain ⟨hn1, k⟩ := k
  match xs, hvs, hn1, k with
  | [d], .cons (v := v) hv .nil, _, k =>
    refine ⟨by simp, fun a hna => ⟨a, v, rfl, upd_same, fun dx hd hn => ⟨rfl, .inl ⟨dx, [(f, v)], upd_same, ?_, ?_, ?_⟩⟩⟩⟩
    · rw [upd_ne hn]
      exact upd_same
    · rw [upd_ne hn] at hd
      exact hd
    · rw [upd_ne hn] at hd
      have e3 : upd (del (upd (upd (upd H' a (exo a C none)) dx (exd dx [(f, v)])) a (exo a C (some dx))) a) dx (.xd [(f, v)]) = upd H' dx (.xd [(f, v)]) := by
        funext b
        unfold upd del
        by_cases e1 : b = dx
        · rw [if_pos e1, if_pos e1]
        · rw [if_neg e1, if_neg e1]
          by_cases e2 : b = a
          · rw [if_pos e2, e2, hna]
          · simp [e1, e2]
      rw [e3]
      exact k _ _ M' _ (o1.more (Ex.new hd)) ⟨C, rfl, c.at_, .inr ⟨dx, [v], rfl, upd_same, .cons hv .nil⟩⟩
  | [], _, hn1, k => cases hn1
  | _ :: _ :: _, _, hn1, k => simp at hn1
end
end Rf

set_option maxRecDepth 100000
set_option maxHeartbeats 4000000
/-! errors: caught by name -/
namespace Rf
open PySem PySem.Spec PyProof.Rows L2 Gd Dt Dl Ee Sd
open Evl (Ex Ex.refl Ex.trans Ex.new ex_l ex_t sq_of st_of fresh_back)
variable {X : Cx} {pos : Pos}
/-- what is known of the error that a suite holds -/
structure Hf (mg : Str → Option Value) (K : PySem.W.Frag) (i : Nat) (a : Addr) (cls : Value) (dd : Option Addr) (c : Str) (ds : List (Str × PyData)) (σ : L2.St) (M H : Hp) : Prop where
  at_ : σ[i]? = some (some (.ref a))
  rep : ExRep mg K c ds cls dd M H
def eOff (π : Option Pen) (s : Ps) (M H M' H' : Hp) : Prop := Step π s M H M' H'
theorem ExRep.step {mg : Str → Option Value} {K : PySem.W.Frag} {c : Str} {ds : List (Str × PyData)} {cls : Value} {dd : Option Addr} {π : Option Pen} {s s' : Ps} {M H M' H' : Hp} (h : ExRep mg K c ds cls dd M H) (o : Ok K π s M H) (t : Step π s' M H M' H') : ExRep mg K c ds cls dd M' H' := by
  obtain ⟨C, e1, e2, e3⟩ := h
  refine ⟨C, e1, e2, e3.imp id ?_⟩
  rintro ⟨dx, vs, e4, e5, e6⟩
  refine ⟨dx, vs, e4, t.off _ _ (fun q hq z => ?_) e5, dps_ex t.ex e6⟩
  rw [z, (o.pen q hq).2.1] at e5
  cases e5
section
variable {i : Nat} {a : Addr} {oe : Obj} {pn : List (Addr × Obj)} {cls : Value} {dd : Option Addr} {c : Str} {ds : List (Str × PyData)}
/-- an expression of a suite -/
def REH (X : Cx) (i : Nat) (a : Addr) (oe : Obj) (pn : List (Addr × Obj)) (cls : Value) (dd : Option Addr) (c : Str) (ds : List (Str × PyData)) (e : Expr) (d : DE) : Prop := ∀ (π : Option Pen) (S1 : Hp) (σ : L2.St) (M H : Hp) (fm : Fm) (s : Ps) (Q : VK),
  Cnt (X.suite a ((a, oe) :: pn)) π W0 S1 σ M H fm s → Hf X.mg X.K i a cls dd c ds σ M H →
    Fin (X.suite a ((a, oe) :: pn)) π W0 σ M H (fun x _ M' H' => ∀ v, Da X.K M' v x → Q v H') (d fm s) → eMax (X.suite a ((a, oe) :: pn)) e σ H Q
def RLH (X : Cx) (i : Nat) (a : Addr) (oe : Obj) (pn : List (Addr × Obj)) (cls : Value) (dd : Option Addr) (c : Str) (ds : List (Str × PyData)) (es : List Expr) (d : DL) : Prop := ∀ (π : Option Pen) (S1 : Hp) (σ : L2.St) (M H : Hp) (fm : Fm) (s : Ps) (Q : List V → Hp → Prop),
  Cnt (X.suite a ((a, oe) :: pn)) π W0 S1 σ M H fm s → Hf X.mg X.K i a cls dd c ds σ M H →
    Fin (X.suite a ((a, oe) :: pn)) π W0 σ M H (fun x _ M' H' => ∀ vs, DaAll X.K M' vs x → Q vs H') (d fm s) → aMax (X.suite a ((a, oe) :: pn)) es σ H Q
def RTH (X : Cx) (i : Nat) (a : Addr) (oe : Obj) (pn : List (Addr × Obj)) (cls : Value) (dd : Option Addr) (c : Str) (ds : List (Str × PyData)) (e : Expr) (d : DT) : Prop := ∀ (π : Option Pen) (S1 : Hp) (σ : L2.St) (M H : Hp) (fm : Fm) (s : Ps) (Q : Bool → Hp → Prop),
  Cnt (X.suite a ((a, oe) :: pn)) π W0 S1 σ M H fm s → Hf X.mg X.K i a cls dd c ds σ M H →
    Fin (X.suite a ((a, oe) :: pn)) π W0 σ M H (fun x _ _ H' => Q x H') (d fm s) → tMax (X.suite a ((a, oe) :: pn)) e σ H Q
theorem Hf.step {π : Option Pen} {s s' : Ps} {M H M' H' : Hp} {σ : L2.St} (h : Hf X.mg X.K i a cls dd c ds σ M H) (o : Ok X.K π s M H) (t : Step π s' M H M' H') : Hf X.mg X.K i a cls dd c ds σ M' H' := ⟨h.at_, h.rep.step o t⟩
theorem eh_of {e : Expr} {d : DE} (h : RE (X.suite a ((a, oe) :: pn)) e d) : REH X i a oe pn cls dd c ds e d := fun π S1 σ M H fm s Q cn _ k => h π W0 S1 σ M H fm s Q cn k
theorem lh_nil : RLH X i a oe pn cls dd c ds [] dNil := fun π S1 σ M H fm s Q cn _ k => of_pa pa_nil (show Q [] H from k.ok_ cn.ok [] .nil)
theorem lh_cons {e : Expr} {es : List Expr} {d : DE} {dr : DL} (ha : REH X i a oe pn cls dd c ds e d) (hr : RLH X i a oe pn cls dd c ds es dr) (hs : starEach (e :: es) X.env = (false, eval e X.env) :: starEach es X.env := by rfl) : RLH X i a oe pn cls dd c ds (e :: es) (dCons d dr) := fun π S1 σ M H fm s Q cn hf k => by
  refine of_pa (X := X.suite a ((a, oe) :: pn)) (pa_cons (peMax e) (paMax es) hs) ?_
  refine ha π S1 σ M H fm s _ cn hf ((fin_bind cn.ok k).mono fun x s' M' H' t k v hv => ?_)
  have c1 := cn.step t
  refine hr π S1 σ M' H' fm s' _ c1 (hf.step cn.ok t) ((fin_bind c1.ok k).mono fun xs s2 M2 H2 t2 k vs hvs => ?_)
  exact k.ok_ (c1.step t2).ok _ (.cons (dp_ex t2.ex hv) hvs)
theorem eh_tup {es : List Expr} {dr : DL} {x1} (h : RLH X i a oe pn cls dd c ds es dr) : REH X i a oe pn cls dd c ds (.Tuple es x1 pos) (dTup dr) := fun π S1 σ M H fm s Q cn hf k => by
  refine of_pe (pe_tup (paMax es)) ?_
  refine h π S1 σ M H fm s _ cn hf ((fin_bind cn.ok k).mono fun xs s' M' H' t k vs hvs => ?_)
  have c1 := cn.step t
  obtain ⟨d, e, k⟩ := fin_of k c1.ok
  obtain ⟨hl, rfl⟩ := few_of e
  refine ⟨Evl.sz_of (by rw [dps_len hvs]; exact hl), fun p hp => ?_⟩
  have t2 := c1.ok.new (ob := .tup vs) hp
  exact k _ _ t2 _ (.tup (st_of upd_same) (dps_ex t2.ex hvs))
theorem eh_lst {es : List Expr} {dr : DL} (h : RLH X i a oe pn cls dd c ds es dr) : REH X i a oe pn cls dd c ds (.List es pos) (dLst dr) := fun π S1 σ M H fm s Q cn hf k => by
  refine of_pe (pe_lst (paMax es)) ?_
  refine h π S1 σ M H fm s _ cn hf ((fin_bind cn.ok k).mono fun xs s' M' H' t k vs hvs => ?_)
  have c1 := cn.step t
  obtain ⟨d, e, k⟩ := fin_of k c1.ok
  obtain ⟨hl, rfl⟩ := few_of e
  refine ⟨Evl.sz_of (by rw [dps_len hvs]; exact hl), fun p hp => ?_⟩
  have t2 := c1.ok.new (ob := .lst vs) hp
  exact k _ _ t2 _ (.lst (sq_of upd_same) (dps_ex t2.ex hvs))
theorem eh_if {t x y : Expr} {dt : DT} {dx dy : DE} (ht : RTH X i a oe pn cls dd c ds t dt) (hx : REH X i a oe pn cls dd c ds x dx) (hy : REH X i a oe pn cls dd c ds y dy) : REH X i a oe pn cls dd c ds (.IfExp t x y pos) (dIf dt dx dy) := fun π S1 σ M H fm s Q cn hf k =>
  of_pe (pe_ifExp (ptMax t) (peMax x) (peMax y)) (ht π S1 σ M H fm s _ cn hf ((fin_bind cn.ok k).mono fun b s' M' H' u k => by
    cases b with
    | true => exact hx π S1 σ M' H' fm s' Q (cn.step u) (hf.step cn.ok u) k
    | false => exact hy π S1 σ M' H' fm s' Q (cn.step u) (hf.step cn.ok u) k))
/-- e.f -/
def dFldC (ds : List (Str × PyData)) (f : Str) : DE := fun _ => Mo.of (ds.lookup f)
theorem lookup_zip {K : PySem.W.Frag} {M : Hp} {f : Str} : ∀ {ds : List (Str × PyData)} {vs : List V} {d : PyData}, DaAll K M vs (ds.map (·.2)) → ds.lookup f = some d → ∃ v, ((ds.map (·.1)).zip vs).lookup f = some v ∧ Da K M v d
  | [], _, _, _, e => by simp at e
  | (g, x) :: ds, vs, d, h, e => by
    rw [List.map_cons] at h
    cases h with
    | @cons v vs' _ _ h1 h2 =>
      rw [List.map_cons, List.zip_cons_cons]
      by_cases hg : f = g
      · subst hg
        simp at e
        subst e
        exact ⟨v, by simp, h1⟩
      · have e' : (f == g) = false := by simpa using hg
        simp only [List.lookup, e'] at e
        obtain ⟨w, q1, q2⟩ := lookup_zip h2 e
        exact ⟨w, by simp only [List.lookup, e']; exact q1, q2⟩
theorem eh_fld {f n : Str} {C : Addr} {mB : List Value} {fs : List Str} {sp : Sp} {p : Pos} (E : Err X.prog X.w X.K X.mg X.base c C mB fs sp) (hf0 : f ∈ fs) (hz : Zc cls dd oe) (hv : ∃ vs, oe.data = .fields vs) (hN : X.N[i]? = some n := by rfl) (hvis : Vis X.env.scope n := by first | exact Or.inl rfl | exact Or.inr (Or.inl rfl) | exact Or.inr (Or.inr rfl))
    (hd : (n == ("__debug__" : Str)) = false := by decide) (hcd : (n == ("__classdict__" : Str)) = false := by decide) (hb : attributeBase (.Name n p) f X.env (eval (.Name n p) X.env) = eval (.Name n p) X.env := by rfl) : REH X i a oe pn cls dd c ds (.Attribute (.Name n p) f pos) (dFldC ds f) := fun π S1 σ M H fm s Q cn hf k => by
  obtain ⟨d, ed, k⟩ := fin_of k cn.ok
  obtain ⟨C', e1, e2, e3⟩ := hf.rep
  have eC : C' = C := by
    rw [E.at_] at e2
    injection e2 with e2
    injection e2 with e2
    exact e2.symm
  subst eC
  rcases e3 with ⟨e4, _⟩ | ⟨dx, vs, e4, e5, e6⟩
  · subst e4
    cases ed
  · obtain ⟨v, q1, q2⟩ := lookup_zip e6 ed
    refine of_pe (pe_xf (C := C') ⟨E.T.ga, E.T.gg, E.T.exC, E.T.hdC⟩ (E.no f hf0) hz hv (pe_var (X := X.suite a ((a, oe) :: pn)) hN hvis hd hcd) hb) ⟨_, hf.at_, rfl, e1, dx, _, v, e4, e5, q1, k M H cn.ok.step v q2⟩
/-- isinstance(e, T), T a built-in class -/
def dIsC (b : Bool) : DE := fun _ => Mo.pure (.bool b)
def rIsE2 (K : PySem.W.Frag) (D a : Addr) (dd : Option Addr) : List V → Hp → VK → Prop := fun xs H Q => ∃ (c : V) (cv : Value) (b : Bool), xs = [.ref a, c] ∧ (∀ u, RelV c u → u = cv) ∧ PySem.W.kitOne K (.ref D) cv = some b ∧ (∀ dx, dd = some dx → ∃ fs, H dx = some (.xd fs)) ∧ Q (.bl b) H
theorem call_isE2 {D : Addr} (C : ErrC X.K D) (hz : Zc (.ref D) dd oe) (hf : ∃ vs, oe.data = .fields vs) : CallR (X.suite a ((a, oe) :: pn)) (.builtin "isinstance") (rIsE2 X.K D a dd) := by
  intro pins s σ H xs us Q I r h
  obtain ⟨c, cv, b, rfl, hcv, e, hdx, q⟩ := h
  have hcl : (PySem.W.clsIn X.K D).isSome = true := by
    obtain ⟨nm, q, N, bs, sn, sub, ab, col, dd, k0, k1, k2, k3, k5, Bn, newId, initId, mB, hC, FB, SF⟩ := C.cls
    unfold PySem.W.clsIn
    rw [hC] <;> rfl
  cases r with
  | cons rx rr =>
    cases rr with
    | cons rt rr =>
      cases rr
      cases rx
      have ec := hcv _ rt
      subst ec
      obtain ⟨hget, _⟩ := I.pin (a, oe) (List.mem_append.mpr (.inl List.mem_cons_self))
      obtain ⟨vs, hv⟩ := hf
      have J : ∃ od, PySem.W.InstAt s.heap a oe D od := by
        obtain ⟨oc, od, oda, osl⟩ := oe
        obtain ⟨h1, h2⟩ := hz
        dsimp only at h1 h2 hv
        subst h1 h2 hv
        cases od with
        | none => exact ⟨none, hget, rfl, rfl, trivial⟩
        | some dx =>
          obtain ⟨fs, ef⟩ := hdx dx rfl
          have hx : ObjOk X.prog X.w H s.heap dx (.xd fs) := I.hok dx _ ef
          obtain ⟨mA, hns, hr⟩ := hx
          obtain ⟨o, es, ep, ho, _⟩ := hns
          exact ⟨some o, hget, rfl, rfl, ho⟩
      obtain ⟨od, J⟩ := J
      exact PySem.W.kia_one (PySem.W.kitx_exc hcl C.ga C.gg C.exC C.ca C.gn C.tk C.mo) I.kIn J e (fun z => nomatch z) fun tk => ⟨.bl b, H, I.kept (t' := tk) fun _ _ z => z, rfl, q⟩
theorem eh_isi {n : Str} {cn : Str} {T : String} {C : Addr} {mB : List Value} {fs : List Str} {sp : Sp} {p p2 p3 : Pos} {b : Bool} (E : Err X.prog X.w X.K X.mg X.base c C mB fs sp) (hz : Zc cls dd oe) (hv : ∃ vs, oe.data = .fields vs)
    (hg : Gl X "isinstance") (hm : X.mg "isinstance" = none) (hgc : Gl X cn) (hmc : X.mg cn = none) (hbc : bootBuiltins cn = some (.type T)) (hk : PySem.W.kitMeta T = true) (hb : mB.contains (.type T) = b)
    (hN : X.N[i]? = some n := by rfl) (hvis : Vis X.env.scope n := by first | exact Or.inl rfl | exact Or.inr (Or.inl rfl) | exact Or.inr (Or.inr rfl)) (hd : (n == ("__debug__" : Str)) = false := by decide) (hcd : (n == ("__classdict__" : Str)) = false := by decide)
    (hs : starEach [.Name n p, .Name cn p2] X.env = (false, eval (.Name n p) X.env) :: starEach [.Name cn p2] X.env := by rfl) (hs2 : starEach [.Name cn p2] X.env = (false, eval (.Name cn p2) X.env) :: starEach [] X.env := by rfl)
    (hpl : (backTo pos (starEach [.Name cn p2] X.env)).any (·.1) = false := by rfl) (hn : cn ≠ "__name__" := by decide) (hdb : (cn == ("__debug__" : Str)) = false := by decide) :
    REH X i a oe pn cls dd c ds (.Call (.Name "isinstance" p3) [.Name n p, .Name cn p2] [] pos) (dIsC b) := fun π S1 σ M H fm s Q cnt hf k => by
  obtain ⟨C', e1, e2, e3⟩ := hf.rep
  have eC : C' = C := by
    rw [E.at_] at e2
    injection e2 with e2
    injection e2 with e2
    exact e2.symm
  subst eC
  subst e1
  refine of_pe (pe_callB (X := X.suite a ((a, oe) :: pn)) (call_isE2 E.T hz hv) hg hm (by decide +kernel) (pa_cons (pe_var (X := X.suite a ((a, oe) :: pn)) hN hvis hd hcd) (pa_cons (pe_bltn (X := X.suite a ((a, oe) :: pn)) (v := .ty T) hgc hmc hbc rfl hn hdb) pa_nil hs2) hs) (by decide) (by decide) hs hpl) ?_
  refine ⟨_, hf.at_, .ty T, .type T, b, rfl, fun u hu => hu, ?_, fun dx e => ?_, k.ok_ cnt.ok _ (.bl b)⟩
  · rw [kit_built E hk, hb]
  · rcases e3 with ⟨_, e5⟩ | ⟨dx', vs, e5, e6, _⟩
    · rw [e5] at e
      cases e
    · rw [e5] at e
      cases e
      exact ⟨_, e6⟩
theorem th_val {e : Expr} {d : DE} (h : REH X i a oe pn cls dd c ds e d) (he : ∀ whole, isTrue e X.env whole = (do let v ← whole; standAt e.pos; holding [v] (truthy v)) := by intro _; rfl) : RTH X i a oe pn cls dd c ds e (dB d) := fun π S1 σ M H fm s Q cn hf k =>
  of_pt (X := X.suite a ((a, oe) :: pn)) (pt_val (peMax e) he) (h π S1 σ M H fm s _ cn hf (test_run cn k))
/-- a suite's one statement -/
def RSH (X : Cx) (i : Nat) (a : Addr) (oe : Obj) (pn : List (Addr × Obj)) (cls : Value) (dd : Option Addr) (c : Str) (ds : List (Str × PyData)) (st : Stmt) (d : DS) : Prop := ∀ (π : Option Pen) (S0 S1 : Hp) (s0 : Ps) (σ : L2.St) (M H : Hp) (fm : Fm) (s : Ps) (D : Ends),
  CntS (X.suite a ((a, oe) :: pn)) π W0 S0 S1 s0 → StS X.K π S0 S1 s σ M H fm → Hf X.mg X.K i a cls dd c ds σ M H → FinS (X.suite a ((a, oe) :: pn)) π W0 S0 S1 M D (d fm s) → sMax (X.suite a ((a, oe) :: pn)) st D σ H
theorem sh_ret {e : Expr} {d : DE} (he : REH X i a oe pn cls dd c ds e d) : RSH X i a oe pn cls dd c ds (.Return (some e) pos) (dRet d) := fun π S0 S1 s0 σ M H fm s D cn t hf k =>
  of_ps (ps_ret (peMax e)) (he π S1 σ M H fm s _ (StS.cnt (X := X.suite a ((a, oe) :: pn)) t cn) hf ((fins cn t k).mono fun x s' M' H' u k v hv => k v M' H' (StS.step (X := X.suite a ((a, oe) :: pn)) t cn u).st hv))
theorem sh_set {j : Nat} {x : Str} {e : Expr} {d : DE} {pos' : Pos} (hN : X.N.Nodup) (hi : X.N[j]? = some x) (hx : Loc X.env.scope x) (he : REH X i a oe pn cls dd c ds e d) (hs : swapsWith e (some (.Name x pos')) pos.line X.env = pure false := by rfl)
    (hf : X.fn x = true ∨ X.env.scope.names.lookup x = some .local := by first | exact .inl rfl | exact .inr rfl | assumption) : RSH X i a oe pn cls dd c ds (.Assign [.Name x pos'] e pos) (dSet j d) := fun π S0 S1 s0 σ M H fm s D cn t h k => by
  refine of_ps (ps_set (X := X.suite a ((a, oe) :: pn)) hN hi hx (peMax e) hs hf) ?_
  exact he π S1 σ M H fm s _ (StS.cnt (X := X.suite a ((a, oe) :: pn)) t cn) h ((fins cn t k).mono fun x s' M' H' u k v hv => k _ M' H' (Ex.refl _) ((StS.step (X := X.suite a ((a, oe) :: pn)) t cn u).set hv))
end
/-! ### try -/
theorem sub_self {P : Program} {w : World} {K : PySem.W.Frag} {mg : Str → Option Value} {base : Heap} {x : Str} {C : Addr} {mB : List Value} {fs : List Str} {sp : Sp} (E : Err P w K mg base x C mB fs sp) : PySem.W.exmOne K (.ref C) (.ref C) = some true := by
  refine PySem.W.exm_ref E.T.exC E.T.hdC E.ty ?_
  obtain ⟨cd, h1, h2⟩ := E.mro
  unfold PySem.W.subIn PySem.W.mroIn
  dsimp only
  rw [h1, Option.bind_some, h2, if_neg (by simp), List.contains_cons]
  simp
/-- behind a suite the name is gone -/
def goneO (i : Nat) : Out → Out
  | .nx f => .nx (f.set i .no)
  | .bk f => .bk (f.set i .no)
  | .ct f => .ct (f.set i .no)
  | .rt x => .rt x
def dTry (x : Str) (i : Nat) (b : DS) (h : List (Str × PyData) → DS) : DS := fun fm s => match b fm s with
  | .exc c ds s' => if c = x then (match h ds (fm.set i .no) s' with
    | .ok o s2 => .ok (goneO i o) s2
    | _ => .bad) else .bad
  | r => r
section
variable {x n : Str} {i : Nat} {np pos' : Pos} {C : Addr} {mB : List Value} {fs : List Str} {sp : Sp} {h0 : Stmt} {dh : List (Str × PyData) → DS}
/-- the suite, entered -/
theorem try_hand (hN : X.N[i]? = some n) {π : Option Pen} {W : WX} {S0 S1 : Hp} {s0 s s' : Ps} {σ : L2.St} {M H : Hp} {fm : Fm} {D : Ends} {c' : Str} {ds : List (Str × PyData)} (E : Err X.prog X.w X.K X.mg X.base x C mB fs sp) (c : CntS X π W S0 S1 s0) (t : StS X.K π S0 S1 s σ M H fm)
    (hh : ∀ (a : Addr) (oe : Obj) (cls : Value) (dd : Option Addr) (pn : List (Addr × Obj)) (ds : List (Str × PyData)), Zc cls dd oe → (∃ vs, oe.data = .fields vs) → RSH X i a oe pn cls dd x ds h0 (dh ds))
    (k : FinS X π W S0 S1 M D (if c' = x then (match dh ds (fm.set i .no) s' with
      | .ok o s2 => .ok (goneO i o) s2
      | _ => .bad) else .bad)) {cls : Value} {dd : Option Addr} {M' H' : Hp} (u : Step π s' M H M' H') (r : ExRep X.mg X.K c' ds cls dd M' H') :
    wAs X.K (.ref C) i (fun a cls d D σ H => ∀ (oe : Obj) (pn : List (Addr × Obj)), Zc cls d oe → (∃ vs, oe.data = .fields vs) → ssMax (X.suite a ((a, oe) :: pn)) [h0] D σ H) W D cls dd σ H' := by
  by_cases hc : c' = x
  · subst hc
    rw [if_pos rfl] at k
    obtain ⟨C', e1, e2, e3⟩ := r
    have eC : C' = C := by
      rw [E.at_] at e2
      injection e2 with e2
      injection e2 with e2
      exact e2.symm
    subst eC
    subst e1
    refine ⟨true, sub_self E, fun _ a ha oe pn hz hv => ?_, fun z => by cases z⟩
    have t1 := t.step c u
    have t2 : StS X.K π S0 S1 s' (σ.set i (some (.ref a))) M' H' (fm.set i .no) := ⟨t1.st, t1.fm.unset⟩
    have cs : CntS (X.suite a ((a, oe) :: pn)) π W0 S0 S1 s0 := ⟨takes0, fun _ _ _ _ _ h => h, c.ok⟩
    by_cases hi : i < σ.length
    · refine of_pss (pss_one (psMax h0)) (hh a oe _ dd pn ds hz hv π S0 S1 s0 _ M' H' _ s' _ cs t2 ⟨List.getElem?_set_self hi, C', rfl, e2, e3⟩ ?_)
      have back : ∀ {σ2 : L2.St} {M2 H2 : Hp} {f : Fm} {s2 : Ps}, StS X.K π S0 S1 s2 σ2 M2 H2 f → StS X.K π S0 S1 s2 (σ2.set i none) M2 H2 (f.set i .no) := fun {σ2 M2 H2 f s2} t => ⟨t.st, t.fm.unset⟩
      cases e : dh ds (fm.set i .no) s' with
      | ok o s2 =>
        simp only [e] at k
        cases o with
        | nx f => exact fun σ2 M2 H2 ex t3 => k _ M2 H2 (u.ex.trans ex) (back t3)
        | bk f => exact fun σ2 M2 H2 ex t3 => k _ M2 H2 (u.ex.trans ex) (back t3)
        | ct f => exact fun σ2 M2 H2 ex t3 => k _ M2 H2 (u.ex.trans ex) (back t3)
        | rt x => exact k
      | exc c2 d2 s2 => simp only [e] at k; exact k.elim
      | bad => simp only [e] at k; exact k.elim
    · intro pins sh I
      have l := I.len
      rw [List.length_set] at l
      have := (List.getElem?_eq_some_iff.mp hN).1
      exact absurd (by rw [l]; exact this) hi
  · rw [if_neg hc] at k
    exact k.elim
end
end Rf

set_option maxRecDepth 100000
set_option maxHeartbeats 4000000
/-! try, as a statement -/
namespace Rf
open PySem PySem.Spec PyProof.Rows L2 Gd Dt Dl Ee Sd
open Evl (Ex Ex.refl Ex.trans Ex.new ex_l ex_t sq_of st_of fresh_back)
variable {X : Cx} {pos : Pos}
section
variable {x n : Str} {i : Nat} {np pos' rpos : Pos} {C : Addr} {mB : List Value} {fs : List Str} {sp : Sp} {h0 : Stmt} {dh : List (Str × PyData) → DS} {e : Expr} {de : DE}
theorem s_tryRet (hN : X.N.Nodup) (hi : X.N[i]? = some n) (hln : X.env.kindOf n = some .local) (E : Err X.prog X.w X.K X.mg X.base x C mB fs sp) (hgl : Gl X x)
    (he : ∀ (pn : List (Addr × Obj)) (xe : Value → Shared → Prop), RE (X.tr pn xe) e de)
    (hh : ∀ (a : Addr) (oe : Obj) (cls : Value) (dd : Option Addr) (pn : List (Addr × Obj)) (ds : List (Str × PyData)), Zc cls dd oe → (∃ vs, oe.data = .fields vs) → RSH X i a oe pn cls dd x ds h0 (dh ds))
    (hdb : (x == ("__debug__" : Str)) = false := by decide) (hs : X.stack = X.env :: X.outer := by rfl) (hf : X.env.frame = some X.env.locals := by rfl) :
    RS X (.Try [.Return (some e) rpos] [.ExceptHandler (some (.Name x np)) (some n) [h0] pos'] [] [] pos) (dTry x i (dRet de) dh) := fun π W S0 S1 s0 σ M H fm s D c t k => by
  refine of_ps (ps_try_as hs hf hN hi hln ⟨hgl, hdb, .inl E.at_⟩ c.tk (tb := fun W D σ H => ∀ (pn : List (Addr × Obj)) (xe : Value → Shared → Prop), Takes (X.tr pn xe) W → ssMax (X.tr pn xe) [.Return (some e) rpos] D σ H) (fun W pn xe tk hp => ⟨fun pins s σ H D I h => h pn xe tk pins s I⟩)
    (ts := fun a cls d D σ H => ∀ (oe : Obj) (pn : List (Addr × Obj)), Zc cls d oe → (∃ vs, oe.data = .fields vs) → ssMax (X.suite a ((a, oe) :: pn)) [h0] D σ H) (fun a oe cls d pn hz hv => ⟨fun pins s σ H D I h => h oe pn hz hv pins s I⟩)) ?_
  intro pn xe tk
  refine of_pss (X := X.tr pn xe) (pss_one (ps_ret (peMax e))) ?_
  refine he pn xe π _ S1 σ M H fm s _ ⟨tk, (t.cnt c).ok, t.fm⟩ ?_
  unfold dTry dRet Mo.bind at k
  cases e1 : de fm s with
  | ok x s' =>
    rw [e1] at k
    intro M' H' u v hv
    exact k v M' H' (t.step c u).st hv
  | exc c' ds s' =>
    rw [e1] at k
    intro cls dd M' H' u r
    exact try_hand hi E c t hh k u r
  | bad => rw [e1] at k; exact k
theorem s_trySet {j : Nat} {y : Str} {yp : Pos} (hN : X.N.Nodup) (hi : X.N[i]? = some n) (hln : X.env.kindOf n = some .local) (hj : X.N[j]? = some y) (hx : Loc X.env.scope y) (E : Err X.prog X.w X.K X.mg X.base x C mB fs sp) (hgl : Gl X x)
    (he : ∀ (pn : List (Addr × Obj)) (xe : Value → Shared → Prop), RE (X.tr pn xe) e de)
    (hh : ∀ (a : Addr) (oe : Obj) (cls : Value) (dd : Option Addr) (pn : List (Addr × Obj)) (ds : List (Str × PyData)), Zc cls dd oe → (∃ vs, oe.data = .fields vs) → RSH X i a oe pn cls dd x ds h0 (dh ds))
    (hdb : (x == ("__debug__" : Str)) = false := by decide) (hs : X.stack = X.env :: X.outer := by rfl) (hf : X.env.frame = some X.env.locals := by rfl) (hsw : swapsWith e (some (.Name y yp)) rpos.line X.env = pure false := by rfl)
    (hfl : X.fn y = true ∨ X.env.scope.names.lookup y = some .local := by first | exact .inl rfl | exact .inr rfl | assumption) :
    RS X (.Try [.Assign [.Name y yp] e rpos] [.ExceptHandler (some (.Name x np)) (some n) [h0] pos'] [] [] pos) (dTry x i (dSet j de) dh) := fun π W S0 S1 s0 σ M H fm s D c t k => by
  refine of_ps (ps_try_as hs hf hN hi hln ⟨hgl, hdb, .inl E.at_⟩ c.tk (tb := fun W D σ H => ∀ (pn : List (Addr × Obj)) (xe : Value → Shared → Prop), Takes (X.tr pn xe) W → ssMax (X.tr pn xe) [.Assign [.Name y yp] e rpos] D σ H) (fun W pn xe tk hp => ⟨fun pins s σ H D I h => h pn xe tk pins s I⟩)
    (ts := fun a cls d D σ H => ∀ (oe : Obj) (pn : List (Addr × Obj)), Zc cls d oe → (∃ vs, oe.data = .fields vs) → ssMax (X.suite a ((a, oe) :: pn)) [h0] D σ H) (fun a oe cls d pn hz hv => ⟨fun pins s σ H D I h => h oe pn hz hv pins s I⟩)) ?_
  intro pn xe tk
  refine of_pss (X := X.tr pn xe) (pss_one (ps_set (X := X.tr pn xe) hN hj hx (peMax e) hsw hfl)) ?_
  refine he pn xe π _ S1 σ M H fm s _ ⟨tk, (t.cnt c).ok, t.fm⟩ ?_
  unfold dTry dSet Mo.bind at k
  cases e1 : de fm s with
  | ok x s' =>
    rw [e1] at k
    intro M' H' u v hv
    exact k _ M' H' u.ex ((t.step c u).set hv)
  | exc c' ds s' =>
    rw [e1] at k
    intro cls dd M' H' u r
    exact try_hand hi E c t hh k u r
  | bad => rw [e1] at k; exact k
end
end Rf

set_option maxRecDepth 100000
set_option maxHeartbeats 4000000
/-! the text's error classes; a law's own def -/
namespace Rf
open PySem PySem.Spec PyProof.Rows L2 Gd Dt Dl Ee Sd
open Evl (Ex Ex.refl Ex.trans Ex.new ex_l ex_t sq_of st_of fresh_back)
/-- the first def of a class -/
def inner : Stmt → Stmt
  | .ClassDef (body := b) .. => b.headD (.Pass ⟨0, 0, 0, 0⟩)
  | _ => .Pass ⟨0, 0, 0, 0⟩
abbrev mVal : List Value := [.type "ValueError", .type "Exception", .type "BaseException", .type "object"]
abbrev mRun : List Value := [.type "RuntimeError", .type "Exception", .type "BaseException", .type "object"]
abbrev mOvf : List Value := [.type "OverflowError", .type "ArithmeticError", .type "Exception", .type "BaseException", .type "object"]
abbrev mLok : List Value := [.type "LookupError", .type "Exception", .type "BaseException", .type "object"]
/-- what the text's heap says of a class and of its __init__ -/
structure Raw (K : PySem.W.Frag) (x q0 : Str) (st : Stmt) (C fI : Addr) (fd : FuncData) (Bn newId : String) (mB : List Value) (fs : List Str) : Prop where
  at_ : PySem.W.nsIn K mainGlobals x = some (some (.ref C))
  ob : ∃ nm q N bs sn sub ab col dd k0 k1 k2 k3 k5, K.lookup C = some (excClassObj nm q C N bs mB true sn sub ab col dd k0 k1 k2 k3 k5 newId)
  sa : PySem.W.findIn K (.ref C) "__setattr__" = some (some (.builtin "object.__setattr__"))
  ga : PySem.W.findIn K (.ref C) "__getattribute__" = some (some (.builtin "BaseException.__getattribute__"))
  gg : PySem.W.findIn K (.ref C) "__getattr__" = some none
  exC : PySem.W.subIn K (.ref C) (.type "BaseException") = some true
  kC : PySem.W.keepIn K (.ref C) = true
  hdC : PySem.W.hasDictIn K C = true
  ca : PySem.W.findIn K (.ref C) "__class__" = some (some (.builtin "object.__class__"))
  gn : PySem.W.specialIn K (.builtin "object.__class__") "__get__" = some (some (.builtin "getset_descriptor.__get__"))
  tk : PySem.W.takesIn K (.builtin "object.__class__") = some true
  mo : PySem.W.mroIn K C (.type "object") = some true
  ty : PySem.W.typeIn K (.ref C) = some (.type "type")
  iC : PySem.W.findIn K (.ref C) "__init__" = some (some (.ref fI))
  tI : PySem.W.typeIn K (.ref fI) = some (.type "function")
  F : L2.Fun K "__init__" q0 st fI fd
  no : ∀ f ∈ fs, PySem.W.findIn K (.ref C) f = some none
section
variable {P : Program} {w : World} {K : PySem.W.Frag} {mg : Str → Option Value} {base : Heap} {x q0 : Str} {st : Stmt} {C fI : Addr} {fd : FuncData} {Bn newId initId : String} {mB : List Value} {fs : List Str} {sp : Sp}
theorem Raw.errC (r : Raw K x q0 st C fI fd Bn newId mB fs) (FB : ExcBaseFacts Bn newId initId mB) (SF : StoreFacts Bn mB "object.__setattr__" "object") : ErrC K C := by
  obtain ⟨nm, q, N, bs, sn, sub, ab, col, dd, k0, k1, k2, k3, k5, ob⟩ := r.ob
  exact ⟨⟨nm, q, N, bs, sn, sub, ab, col, dd, k0, k1, k2, k3, k5, Bn, newId, initId, mB, ob, FB, SF⟩, r.sa, r.ga, r.gg, r.exC, r.kC, r.hdC, r.ca, r.gn, r.tk, r.mo⟩
theorem Raw.mro (r : Raw K x q0 st C fI fd Bn newId mB fs) : ∃ cd, PySem.W.clsIn K C = some cd ∧ cd.mro = .ref C :: mB := by
  obtain ⟨nm, q, N, bs, sn, sub, ab, col, dd, k0, k1, k2, k3, k5, ob⟩ := r.ob
  refine ⟨_, by unfold PySem.W.clsIn; rw [ob] <;> rfl, rfl⟩
end
theorem ob_mk {K : PySem.W.Frag} {C : Addr} {nm q : Str} {N : Addr} {bs : List Value} {sn : List Str} {sub : List Value} {ab : Bool} {col : Option Bool} {dd : Option Addr} {k0 k1 k2 k3 k5 : Option Value} {newId : String} {mB : List Value}
    (h : K.lookup C = some (excClassObj nm q C N bs mB true sn sub ab col dd k0 k1 k2 k3 k5 newId)) : ∃ nm q N bs sn sub ab col dd k0 k1 k2 k3 k5, K.lookup C = some (excClassObj nm q C N bs mB true sn sub ab col dd k0 k1 k2 k3 k5 newId) := ⟨_, _, _, _, _, _, _, _, _, _, _, _, _, _, h⟩
theorem no0 {p : Str → Prop} : ∀ f ∈ ([] : List Str), p f := fun f h => by cases h
theorem no1 {p : Str → Prop} {a : Str} (h : p a) : ∀ f ∈ [a], p f := fun f hf => by rw [List.mem_singleton.mp hf]; exact h
theorem no2 {p : Str → Prop} {a b : Str} (h : p a) (h2 : p b) : ∀ f ∈ [a, b], p f := fun f hf => by
  rcases List.mem_cons.mp hf with rfl | hf
  · exact h
  · rw [List.mem_singleton.mp hf]
    exact h2
section
variable {P : Program} {w : World} {K : PySem.W.Frag} {mg : Str → Option Value} {base : Heap} {f : Addr} {fd : FuncData}
/-- a def of which nothing is asked -/
theorem fc_bad {k : Nat} {ps : List Str} {x : Str} {st : Stmt} (F : L2.Fun K x x st f fd) (m : mg x = some (.ref f)) (hb : L2.Binds K fd ps []) : Fc P w K mg base x k ps.length (fun _ _ => .bad) :=
  ⟨f, fd, ps, rfl, ⟨fun vs H Q E h => by
    obtain ⟨π, s, M, as, h1, h2, _⟩ := h
    rw [argsOk_len h1, h2], fun A outer s H args us vs Q E _ _ _ _ _ h => by
    obtain ⟨π, s, M, as, h1, h2, _, h3⟩ := h
    exact h3.elim⟩, m, F.kp, hb⟩
theorem Fc.mono {x : Str} {j k n : Nat} {g : Gf} (c : Fc P w K mg base x j n g) (h : j ≤ k) : Fc P w K mg base x k n g := by
  obtain ⟨f, fd, ps, h1, h2, h3⟩ := c.ex
  exact ⟨f, fd, ps, h1, ⟨h2.len, fun A outer s H args us vs Q E hf hr => h2.run A outer s H args us vs Q E hf (hr.mono h)⟩, h3⟩
/-! ### the pen -/
def spPen (K : PySem.W.Frag) : Sp := fun vs H Q _ => ∃ (a : Addr) (ns : List Int), vs = [.ref a] ∧ SqL K H a (ns.map V.int) ∧ ns.length ≤ 63 ∧
  ∀ (p g : Addr) (H' : Hp), H p = none → g ≠ p → Ex H H' → H' g = some (.lst (ns.map V.int)) → H' p = some (.lst [.ref g, .int 0, .int 0]) → Q (.ref p) H'
theorem take_ints (ns : List Int) (hn : ns.length ≤ 63) : cutV (ns.map V.int) none (some 63) = ns.map V.int := by
  unfold cutV
  have h1 : HT.sIx (ns.map V.int).length 0 none = 0 := rfl
  have h2 : HT.sIx (ns.map V.int).length (ns.map V.int).length (some 63) = min 63 (ns.map V.int).length := HT.sIx_nat _ _ 63
  rw [h1, h2, List.length_map, Nat.min_eq_right hn, List.drop_zero, Nat.sub_zero]
  exact List.take_of_length_le (by rw [List.length_map]; exact Nat.le_refl _)
/-- the pen's making, by its body's reading -/
theorem pen_pure {vs : List V} {H : Hp} {Q : VK} {E : XK} (h : spPen K vs H Q E) :
    tRet (tLst (tCons (tCB (fun xs H Q => ∃ p ys, xs = [.ref p] ∧ (SqL K H p ys ∨ SqT K H p ys) ∧ ∀ l, H l = none → Q (.ref l) (upd H l (.lst ys))) (tCons (tSl (rSlL K) (tVar 0) tNoPart (tPart (tC (.int 63)))) tNil)) (tCons (tC (.int 0)) (tCons (tC (.int 0)) tNil)))) { nx := fun _ H' => Q .non H', rt := Q } (L2.start ["script"] vs) H := by
  obtain ⟨a, ns, rfl, hs, hn, q⟩ := h
  refine ⟨_, rfl, 63, rfl, a, _, rfl, hs, fun c hc => ?_⟩
  rw [take_ints ns hn]
  refine ⟨c, _, rfl, .inl (sq_of upd_same), fun g hg => ⟨by show 3 ≤ sizeLine; decide, fun p hp => ?_⟩⟩
  have e1 : Ex H (upd H c (.lst (ns.map V.int))) := Ex.new hc
  have e2 := e1.trans (Ex.new (o := .lst (ns.map V.int)) hg)
  have ngp : g ≠ p := fun z => by
    rw [← z, upd_same] at hp
    cases hp
  exact q p g _ (fresh_back e2 hp) ngp (e2.trans (Ex.new hp)) (by rw [upd_ne ngp]; exact upd_same) upd_same
/-! ### a law's own def -/
def spLaw (K : PySem.W.Frag) : Sp := fun vs H Q _ => ∃ (a : Addr) (ns : List Int), vs = [.ref a] ∧ SqL K H a (ns.map V.int) ∧ ns.length ≤ 63 ∧ ∀ H', Q (.bl true) H'
def lawF (n : Nat) (ns : List Int) : Fm := [.d (.list (ns.map .int)), .pen ns] ++ List.replicate (n - 2) .no
theorem dps_ints {M : Hp} : ∀ ns : List Int, DaAll K M (ns.map V.int) (ns.map .int)
  | [] => .nil
  | _ :: ns => .cons (.int _) (dps_ints ns)
theorem law_fn {k : Nat} {st s1 : Stmt} {rest : List Stmt} {N : List Str} {d : DS} (F : L2.Fun K "law" "law" st f fd) (S : FnScope N ["script"] (defScope st)) (h2 : 2 ≤ N.length) (hb : defBody st = s1 :: rest)
    (first : ∀ (cdv : Value) (A : Around) (outer : List Env) (s : Shared) (H : Hp) (E : XK), Free (cxOf CX0 P w K mg base N "law" (defScope st) f cdv A outer s H E).nox.A → Room k (cxOf CX0 P w K mg base N "law" (defScope st) f cdv A outer s H E).nox.A →
      PS (cxOf CX0 P w K mg base N "law" (defScope st) f cdv A outer s H E).nox s1 (tAsg (tCall (spPen K) [] E0 (tCons (tVar 0) tNil)) (gName 1)))
    (rests : ∀ (cdv : Value) (A : Around) (outer : List Env) (s : Shared) (H : Hp) (E : XK), Free (cxOf CX0 P w K mg base N "law" (defScope st) f cdv A outer s H E).nox.A → Room k (cxOf CX0 P w K mg base N "law" (defScope st) f cdv A outer s H E).nox.A →
      PassesOwn (model P w) (cxOf CX0 P w K mg base N "law" (defScope st) f cdv A outer s H E).nox.A (cxOf CX0 P w K mg base N "law" (defScope st) f cdv A outer s H E).nox.env (cxOf CX0 P w K mg base N "law" (defScope st) f cdv A outer s H E).nox.xe →
        RSs (cxOf CX0 P w K mg base N "law" (defScope st) f cdv A outer s H E).nox rest d)
    (holds : ∀ ns : List Int, ns.length ≤ 63 → ∃ s', d (lawF N.length ns) (0, 0) = .ok (.rt (.bool true)) s') : Gd.Fn P w K mg base (k + 1) f fd ["script"] (spLaw K) := by
  refine Gd.ok F S (fun vs H Q E h => ?_) fun cdv A outer s H vs Q E hg hr h => ?_
  · obtain ⟨a, ns, rfl, _⟩ := h
    rfl
  obtain ⟨a, ns, rfl, hs, hn, q⟩ := h
  rw [hb]
  have hg' : Free (cxOf CX0 P w K mg base N "law" (defScope st) f cdv A outer s H E).nox.A := hg.deeper _
  refine ⟨_, pss_cons (first cdv A outer s H E hg' hr) (pssMax rest), ?_⟩
  refine ⟨_, rfl, a, ns, rfl, hs, hn, fun p g H' hp hgp ex hg2 hp2 => ?_⟩
  obtain ⟨s', e⟩ := holds ns hn
  -- all but the pen is known from now on
  let M : Hp := fun b => if b = p then none else H' b
  have hMp : M p = none := if_pos rfl
  have hMo : ∀ {b : Addr}, b ≠ p → M b = H' b := fun {b} hb => if_neg hb
  have hMx : Ex M H' := fun b o hbo => by
    by_cases hb : b = p
    · rw [hb, hMp] at hbo; cases hbo
    · rw [hMo hb] at hbo; exact hbo
  have hMg : M g = some (.lst (ns.map V.int)) := by rw [hMo hgp]; exact hg2
  have hD : Da K M (.ref g) (.list (ns.map .int)) := .lst (sq_of hMg) (dps_ints ns)
  have hne : ∀ o, H a = some o → a ≠ p := fun o ho z => by rw [z, hp] at ho; cases ho
  have hS : SqL K M a (ns.map V.int) := by
    rcases hs with (z | ⟨o, z⟩) | z
    · exact .inl (.inl (by rw [hMo (hne _ z)]; exact ex _ _ z))
    · exact .inl (.inr ⟨o, by rw [hMo (hne _ z)]; exact ex _ _ z⟩)
    · exact .inr z
  have ok : Ok K (some ⟨p, g, ns⟩) (0, 0) M H' := ⟨hMx, fun q e => by cases e; exact ⟨hMp, hp2, hD⟩⟩
  have fm : FmOk K (some ⟨p, g, ns⟩) H' ((L2.start N [V.ref a]).set 1 (some (.ref p))) M H' (lawF N.length ns) := by
    have hl : (L2.start N [V.ref a]).length = N.length := by unfold L2.start; simp; omega
    refine ⟨by rw [List.length_set, hl]; unfold lawF; simp; omega, fun i x ei => ?_, fun i j xs ys l h1 _ _ _ => ?_⟩
    · match i, ei with
      | 0, ei =>
        cases ei
        refine ⟨some (.ref a), ?_, _, rfl, .lst hS (dps_ints ns)⟩
        rw [List.getElem?_set_ne (by decide)]
        rfl
      | 1, ei =>
        cases ei
        refine ⟨some (.ref p), ?_, _, rfl, rfl, rfl⟩
        rw [List.getElem?_set_self (by rw [hl]; omega)]
      | i + 2, ei =>
        have hx : x = .no := by
          have e2 : (List.replicate (N.length - 2) Sl.no)[i]? = some x := ei
          exact (List.mem_replicate.mp (List.mem_of_getElem? e2)).2
        subst hx
        have hi : i < N.length - 2 := by
          have e2 : (List.replicate (N.length - 2) Sl.no)[i]? = some .no := ei
          have := (List.getElem?_eq_some_iff.mp e2).1
          simpa using this
        refine ⟨((L2.start N [V.ref a]).set 1 (some (.ref p)))[i + 2]'(by rw [List.length_set, hl]; omega), List.getElem?_eq_getElem _, trivial⟩
    · exfalso
      match i, h1 with
      | 0, h1 => cases h1
      | 1, h1 => cases h1
      | i + 2, h1 =>
        have e2 : (List.replicate (N.length - 2) Sl.no)[i]? = some (.own xs) := h1
        cases (List.mem_replicate.mp (List.mem_of_getElem? e2)).2
  refine rests cdv A outer s H E hg' hr PassesOwn.never (some ⟨p, g, ns⟩) W0 M H' (0, 0) _ M H' (lawF N.length ns) (0, 0) _ ⟨takes0, fun _ _ _ _ _ h => h, ok⟩ ⟨ok.step, fm⟩ ?_
  rw [e]
  intro v M' H2 t hv
  rw [dp_bl hv]
  exact q H2
end
end Rf

set_option maxRecDepth 100000
set_option maxHeartbeats 4000000
namespace Rf
open PySem PySem.Spec PyProof.Rows L2 Gd Dt Dl Ee Sd
/-! ### runs, by equations -/
section
variable {α β γ : Type}
theorem Mo.pure_bind (x : α) (f : α → Mo β) : (Mo.pure x).bind f = f x := rfl
theorem Mo.bind_assoc (m : Mo α) (f : α → Mo β) (g : β → Mo γ) : (m.bind f).bind g = m.bind fun a => (f a).bind g := by
  funext s
  unfold Mo.bind
  cases m s <;> rfl
theorem Mo.of_some (x : α) : Mo.of (some x) = Mo.pure x := rfl
theorem Mo.of_none : (Mo.of none : Mo α) = Mo.bad := rfl
theorem Mo.bad_bind (f : α → Mo β) : (Mo.bad : Mo α).bind f = Mo.bad := rfl
theorem Mo.raise_bind {c : Str} {ds : List (Str × PyData)} (f : α → Mo β) : (Mo.raise c ds : Mo α).bind f = Mo.raise c ds := rfl
theorem Mo.nox_pure (x : α) : (Mo.pure x).nox = Mo.pure x := rfl
theorem Mo.nox_bad : (Mo.bad : Mo α).nox = Mo.bad := rfl
theorem Mo.nox_bind (m : Mo α) (f : α → Mo β) : (m.bind f).nox = m.nox.bind fun a => (f a).nox := by
  funext s
  simp only [Mo.bind, Mo.nox]
  cases m s with
  | ok a s' => rfl
  | exc c ds s' => rfl
  | bad => rfl
theorem Mo.nox_nox (m : Mo α) : m.nox.nox = m.nox := by
  funext s
  simp only [Mo.nox]
  cases m s <;> rfl
theorem Mo.bind_id (m : Mo α) : m.bind Mo.pure = m := by
  funext s
  unfold Mo.bind
  cases m s <;> rfl
/-- every run ends well, with such a thing -/
def Y (m : Mo α) (φ : α → Prop) : Prop := ∀ s, ∃ a s', m s = .ok a s' ∧ φ a
theorem Y.pure {φ : α → Prop} {x : α} (h : φ x) : Y (Mo.pure x) φ := fun s => ⟨x, s, rfl, h⟩
theorem Y.of {φ : α → Prop} {o : Option α} {x : α} (e : o = some x) (h : φ x) : Y (Mo.of o) φ := by
  subst e
  exact .pure h
theorem Y.bind {φ : α → Prop} {ψ : β → Prop} {m : Mo α} {f : α → Mo β} (h : Y m φ) (k : ∀ a, φ a → Y (f a) ψ) : Y (m.bind f) ψ := fun s => by
  obtain ⟨a, s', e, p⟩ := h s
  obtain ⟨b, s2, e2, p2⟩ := k a p s'
  exact ⟨b, s2, by simp only [Mo.bind, e, e2], p2⟩
theorem Y.imp {φ ψ : α → Prop} {m : Mo α} (h : Y m φ) (k : ∀ a, φ a → ψ a) : Y m ψ := fun s => by
  obtain ⟨a, s', e, p⟩ := h s
  exact ⟨a, s', e, k a p⟩
theorem Y.nox {φ : α → Prop} {m : Mo α} (h : Y m φ) : Y m.nox φ := fun s => by
  obtain ⟨a, s', e, p⟩ := h s
  exact ⟨a, s', by simp only [Mo.nox, e], p⟩
theorem Y.eq {φ : α → Prop} {m : Mo α} {x : α} (e : m = Mo.pure x) (h : φ x) : Y m φ := by
  subst e
  exact .pure h
end
theorem fn_pure {n : Nat} {b : DS} {as : List Arg} {d : PyData} (h : b (initF n as) = Mo.pure (.rt d)) : fnSem n b as = Mo.pure d := by
  funext s
  unfold fnSem
  rw [h]
  rfl
theorem fn_raise {n : Nat} {b : DS} {as : List Arg} {c : Str} {ds : List (Str × PyData)} (h : b (initF n as) = Mo.raise c ds) : fnSem n b as = Mo.raise c ds := by
  funext s
  unfold fnSem
  rw [h]
  rfl
theorem Y.fn {n : Nat} {b : DS} {as : List Arg} {φ : PyData → Prop} (h : Y (b (initF n as)) fun o => ∃ d, o = .rt d ∧ φ d) : Y (fnSem n b as) φ := fun s => by
  obtain ⟨o, s', e, d, rfl, p⟩ := h s
  exact ⟨d, s', by simp only [fnSem, e, endF], p⟩
/-- a statement that goes on, then others -/
theorem Y.then {d u : DS} {fm : Fm} {φ : Fm → Prop} {ψ : Out → Prop} (h : Y (d fm) fun o => ∃ f, o = .nx f ∧ φ f) (k : ∀ f, φ f → Y (u f) ψ) : Y (dThen d u fm) ψ := by
  refine Y.bind h fun o p => ?_
  obtain ⟨f, rfl, p⟩ := p
  exact k f p
/-- a loop -/
theorem Y.for {g : Gt} {b : DS} {I : Nat → Fm → Prop} {ψ : Out → Prop} : ∀ (xs : List PyData) (n : Nat) (fm : Fm), I n fm →
    (∀ i x f, xs[i]? = some x → I (n + i) f → ∃ f1, g x f = some f1 ∧ Y (b f1) fun o => ∃ f2, (o = .nx f2 ∨ o = .ct f2) ∧ I (n + i + 1) f2) → (∀ f, I (n + xs.length) f → ψ (.nx f)) → Y (forGo g b xs fm) ψ
  | [], n, fm, h, _, k => .pure (k fm h)
  | x :: xs, n, fm, h, st, k => by
    obtain ⟨f1, e1, y⟩ := st 0 x fm rfl h
    refine Y.bind (.of e1 rfl) fun f1' z => ?_
    subst z
    refine Y.bind y fun o p => ?_
    obtain ⟨f2, p, i2⟩ := p
    have e : n + (x :: xs).length = n + 1 + xs.length := by rw [List.length_cons]; omega
    have r : Y (forGo g b xs f2) ψ := Y.for xs (n + 1) f2 i2 (fun i y f q w => by
      have q2 := st (i + 1) y f q (by rwa [show n + (i + 1) = n + 1 + i from by omega])
      rwa [show n + (i + 1) + 1 = n + 1 + i + 1 from by omega] at q2) fun f w => k f (by rw [e]; exact w)
    rcases p with rfl | rfl
    · exact r
    · exact r
/-- a comprehension -/
theorem Y.lc {g : Gt} {t : DT} {e : DE} {fm : Fm} {φ : PyData → Prop} : ∀ (xs : List PyData), (∀ x ∈ xs, ∃ f1, g x fm = some f1 ∧ Y (t f1) (fun _ => True) ∧ Y (e f1) φ) → Y (lcGo g t e fm xs) fun ys => (∀ y ∈ ys, φ y) ∧ ys.length ≤ xs.length
  | [], _ => .pure ⟨fun y h => absurd h (List.not_mem_nil), Nat.le_refl _⟩
  | x :: xs, h => by
    obtain ⟨f1, e1, yt, ye⟩ := h x List.mem_cons_self
    have r := Y.lc xs fun y hy => h y (List.mem_cons_of_mem _ hy)
    refine Y.bind (.of e1 rfl) fun f1' z => ?_
    subst z
    refine Y.bind yt.nox fun b _ => ?_
    cases b with
    | false => exact r.imp fun ys p => ⟨p.1, Nat.le_succ_of_le p.2⟩
    | true =>
      refine Y.bind ye.nox fun y py => Y.bind r fun ys p => .pure ⟨fun z hz => ?_, by simpa using p.2⟩
      rcases List.mem_cons.mp hz with rfl | hz
      · exact py
      · exact p.1 z hz
/-- one that takes all -/
theorem Y.lcA {g : Gt} {e : DE} {fm : Fm} {φ : PyData → Prop} : ∀ (xs : List PyData), (∀ x ∈ xs, ∃ f1, g x fm = some f1 ∧ Y (e f1) φ) → Y (lcGo g dYes e fm xs) fun ys => (∀ y ∈ ys, φ y) ∧ ys.length = xs.length
  | [], _ => .pure ⟨fun y h => absurd h (List.not_mem_nil), rfl⟩
  | x :: xs, h => by
    obtain ⟨f1, e1, ye⟩ := h x List.mem_cons_self
    have r := Y.lcA xs fun y hy => h y (List.mem_cons_of_mem _ hy)
    refine Y.bind (.of e1 rfl) fun f1' z => ?_
    subst z
    refine Y.bind (Y.nox (.pure rfl)) fun b z => ?_
    subst z
    refine Y.bind ye.nox fun y py => Y.bind r fun ys p => .pure ⟨fun z hz => ?_, by simpa using p.2⟩
    rcases List.mem_cons.mp hz with rfl | hz
    · exact py
    · exact p.1 z hz
/-- a comprehension of settled things -/
theorem lc_eq {g : Gt} {t : DT} {e : DE} {fm : Fm} {p : PyData → Bool} {h : PyData → PyData} : ∀ (xs : List PyData), (∀ x ∈ xs, ∃ f1, g x fm = some f1 ∧ t f1 = Mo.pure (p x) ∧ (p x = true → e f1 = Mo.pure (h x))) → lcGo g t e fm xs = Mo.pure ((xs.filter p).map h)
  | [], _ => rfl
  | x :: xs, k => by
    obtain ⟨f1, e1, et, ee⟩ := k x List.mem_cons_self
    have r := lc_eq xs fun y hy => k y (List.mem_cons_of_mem _ hy)
    unfold lcGo
    rw [e1, Mo.of_some, Mo.pure_bind, et, Mo.nox_pure, Mo.pure_bind]
    cases z : p x with
    | false =>
      simp only [List.filter_cons, z, Bool.false_eq_true, if_false]
      exact r
    | true =>
      simp only [List.filter_cons, z, if_true, List.map_cons, ee z, Mo.nox_pure, Mo.pure_bind, r]
/-! ### reading frames -/
theorem few_ok {α : Type} {n : Nat} {xs : List PyData} {d : α} (h : xs.length ≤ n) : few n xs d = some d := by
  unfold few
  rw [if_pos h]
/-! ### lists of data -/
theorem atI_ok {α : Type} {xs : List α} {i : Int} (h0 : 0 ≤ i) (h : i < xs.length) : atI xs i = some (xs[i.toNat]'(by omega)) := by
  unfold atI ixN
  rw [if_pos h0, if_pos h]
  exact List.getElem?_eq_getElem _
theorem atI_mem {xs : List PyData} {i : Int} (h0 : 0 ≤ i) (h : i < xs.length) : ∃ x, atI xs i = some x ∧ x ∈ xs := ⟨_, atI_ok h0 h, List.getElem_mem _⟩
theorem gEq_str {x : PyData} {z : Str} (h : noErr x = true) : gEq x (.str z) = some (.bool (isTxt z x)) := by
  cases x <;> (unfold gEq; exact if_pos h)
theorem gEq_int {i j : Int} : gEq (.int i) (.int j) = some (.bool (decide (i = j))) := rfl
theorem gNe_int {i j : Int} : gNe (.int i) (.int j) = some (.bool (!decide (i = j))) := rfl
theorem eqv_nil (xs : List PyData) : PyData.eqv (.tuple xs) (.tuple []) = xs.isEmpty := by
  cases xs <;> simp [PyData.eqv, PyData.eqvAll]
theorem eqv_nilL (xs : List PyData) : PyData.eqv (.list xs) (.list []) = xs.isEmpty := by
  cases xs <;> simp [PyData.eqv, PyData.eqvAll]
theorem gEq_nil {xs : List PyData} : gEq (.tuple xs) (.tuple []) = some (.bool xs.isEmpty) := by
  show (if SeqAt.shaped (.tuple xs) = true ∧ SeqAt.shaped (.tuple []) = true then some (PyData.bool (PyData.eqv (.tuple xs) (.tuple []))) else some (.bool xs.isEmpty)) = _
  rw [eqv_nil]
  split <;> rfl
theorem canLays_ones : ∀ {xs : List PyData}, (∀ x ∈ xs, x = .int 1) → PyData.canLayAll0 xs = true ∧ PyData.depthAll xs = 0
  | [], _ => ⟨rfl, rfl⟩
  | x :: xs, h => by
    have r := canLays_ones fun y hy => h y (List.mem_cons_of_mem _ hy)
    rw [h x List.mem_cons_self]
    exact ⟨by simp only [PyData.canLayAll0, PyData.canLay0, r.1, Bool.and_self], by simp only [PyData.depthAll, PyData.depth, r.2, Nat.max_self]⟩
theorem sh_ones {xs : List PyData} (h : ∀ x ∈ xs, x = .int 1) : SeqAt.shaped (.list xs) = true := by
  have r := canLays_ones h
  unfold SeqAt.shaped
  rw [Bool.and_eq_true]
  exact ⟨r.1, decide_eq_true (by simp only [PyData.depth, r.2]; decide)⟩
/-- rows of ones, against none -/
theorem gNe_ones {xs : List PyData} (h : ∀ x ∈ xs, x = .int 1) : gNe (.list xs) (.list []) = some (.bool (!xs.isEmpty)) := by
  show (if SeqAt.shaped (.list xs) = true ∧ SeqAt.shaped (.list []) = true then some (PyData.bool (!PyData.eqv (.list xs) (.list []))) else none) = _
  rw [if_pos ⟨sh_ones h, rfl⟩, eqv_nilL]
theorem gEq_ones {xs : List PyData} (h : ∀ x ∈ xs, x = .int 1) : gEq (.list xs) (.list []) = some (.bool xs.isEmpty) := by
  show (if SeqAt.shaped (.list xs) = true ∧ SeqAt.shaped (.list []) = true then some (PyData.bool (PyData.eqv (.list xs) (.list []))) else none) = _
  rw [if_pos ⟨sh_ones h, rfl⟩, eqv_nilL]
theorem boolsOf_map {f : PyData → Bool} : ∀ xs : List PyData, boolsOf (xs.map fun x => .bool (f x)) = some (xs.map f)
  | [] => rfl
  | x :: xs => by simp only [List.map_cons, boolsOf, boolsOf_map xs, Option.map_some]
theorem gAll_map {f : PyData → Bool} {xs : List PyData} : gAll [.list (xs.map fun x => .bool (f x))] = some (.bool (xs.all f)) := by
  simp only [gAll, boolsOf_map, Option.map_some, List.all_map]
  rfl
theorem okDs_mem : ∀ {ds : List PyData}, okDs ds = true → ∀ d ∈ ds, okD d = true
  | [], _, _, hd => by cases hd
  | x :: ds, h, d, hd => by
    simp only [okDs, Bool.and_eq_true] at h
    rcases List.mem_cons.mp hd with e | hd
    · rw [e]
      exact h.1
    · exact okDs_mem h.2 d hd
theorem noErr_ok {d : PyData} (h : okD d = true) : noErr d = true := by
  cases d with
  | dict kvs =>
    cases kvs with
    | nil => rfl
    | cons x r => cases h
  | _ => rfl
end Rf

set_option maxRecDepth 100000
set_option maxHeartbeats 4000000
namespace Rf
open PySem PySem.Spec PyProof.Rows L2 Gd Dt Dl Ee Sd
/-! ### displays of constants -/
def csL (f : Expr → Option PyData) : List Expr → Option (List PyData)
  | [] => some []
  | e :: es => if noStar e = true then match f e, csL f es with
    | some d, some ds => some (d :: ds)
    | _, _ => none else none
def csE : Nat → Expr → Option PyData
  | 0, _ => none
  | n + 1, e => match e with
    | .Constant .none _ _ => some .none
    | .Constant (.bool b) _ _ => some (.bool b)
    | .Constant (.int i) _ _ => some (.int i)
    | .Constant (.str x) _ _ => some (.str x)
    | .UnaryOp .USub a _ => (csE n a).bind gNeg
    | .BinOp a .Pow b _ => (csE n a).bind fun x => (csE n b).bind fun y => gPow x y
    | .Tuple es _ _ => (csL (csE n) es).bind fun ds => few 100000 ds (.tuple ds)
    | .List es _ => (csL (csE n) es).bind fun ds => few 100000 ds (.list ds)
    | .Dict [] [] _ => some (.dict [])
    | _ => none
variable {X : Cx}
theorem re_eq {e : Expr} {d : DE} {x : PyData} (h : RE X e d) (q : ∀ fm, d fm = Mo.pure x) : RE X e (dC x) := by
  have : d = dC x := funext q
  rwa [this] at h
theorem csL_ok {f : Expr → Option PyData} (hf : ∀ e d, f e = some d → RE X e (dC d)) : ∀ {es : List Expr} {ds : List PyData}, csL f es = some ds → RL X es fun _ => Mo.pure ds
  | [], ds, h => by
    cases h
    exact rl_nil
  | e :: es, ds, h => by
    unfold csL at h
    split at h
    · rename_i hs
      split at h
      · rename_i d ds' h1 h2
        cases h
        exact rl_cons (hf e d h1) (csL_ok hf h2) hs
      · cases h
    · cases h
theorem csE_ok : ∀ (n : Nat) (e : Expr) (d : PyData), csE n e = some d → RE X e (dC d)
  | 0, _, _, h => by cases h
  | n + 1, e, d, h => by
    unfold csE at h
    split at h
    · cases h; exact r_non
    · cases h; exact r_bl
    · cases h; exact r_int
    · cases h; exact r_str
    · rename_i a p
      cases h1 : csE n a with
      | none => rw [h1] at h; cases h
      | some x =>
        rw [h1] at h
        exact re_eq (r_neg (csE_ok n a x h1)) fun fm => by
          show Mo.of (gNeg x) = _
          rw [show gNeg x = some d from h]
          rfl
    · rename_i a b p
      cases h1 : csE n a with
      | none => rw [h1] at h; cases h
      | some x =>
        cases h2 : csE n b with
        | none => rw [h1, h2] at h; cases h
        | some y =>
          rw [h1, h2] at h
          exact re_eq (r_bin os_pow (csE_ok n a x h1) (csE_ok n b y h2)) fun fm => by
            show Mo.of (gPow x y) = _
            rw [show gPow x y = some d from h]
            rfl
    · rename_i es a b
      cases h1 : csL (csE n) es with
      | none => rw [h1] at h; cases h
      | some ds =>
        rw [h1] at h
        exact re_eq (r_tup (csL_ok (csE_ok n) h1)) fun fm => by
          show Mo.of (few 100000 ds (PyData.tuple ds)) = _
          rw [show few 100000 ds (PyData.tuple ds) = some d from h]
          rfl
    · rename_i es b
      cases h1 : csL (csE n) es with
      | none => rw [h1] at h; cases h
      | some ds =>
        rw [h1] at h
        exact re_eq (r_lst (csL_ok (csE_ok n) h1)) fun fm => by
          show Mo.of (few 100000 ds (PyData.list ds)) = _
          rw [show few 100000 ds (PyData.list ds) = some d from h]
          rfl
    · cases h; exact r_dict
    · cases h
theorem r_cst {e : Expr} {d : PyData} (h : csE 9 e = some d) : RE X e (dC d) := csE_ok 9 e d h
end Rf

set_option maxRecDepth 100000
set_option maxHeartbeats 4000000
/-! a set made by a comprehension, sorted -/
namespace Rf
open PySem PySem.Spec PyProof.Rows L2 Gd Dt Dl Ee Sd
open Evl (Ex Ex.refl Ex.trans Ex.new ex_l ex_t sq_of st_of fresh_back)
variable {X : Cx} {pos : Pos}
/-- what a set is after one more -/
structure AddTo (p : Addr × PyData) (L L' : Ks) : Prop where
  sub : ∀ q ∈ L', q ∈ p :: L
  nd : (L'.map (·.2)).Nodup
  mem : ∀ d, d ∈ L'.map (·.2) ↔ d = p.2 ∨ d ∈ L.map (·.2)
  len : L'.length ≤ L.length + 1
theorem addD_ok {pz : List (Addr × Obj)} {τ : L2.St} {G : Hp} {sh : Shared} {E : Value → Shared → Prop} {D : Addr} {L : Ks} {p : Addr × PyData} {Q : Value → Shared → Prop} (J : Inv X pz τ G sh) (hD : G D = some (SetDO X.prog X.w D L))
    (hk : ∀ q ∈ p :: L, Dl.Da X.K G (.ref q.1) q.2 ∧ keyD q.2 = true ∧ q.2.depth ≤ 8) (room : L.length + 1 < 64) (hu : X.A.units + 64 < cLine)
    (k : ∀ sh' L', AddTo p L L' → Inv X pz τ (upd G D (SetDO X.prog X.w D L')) sh' → Q .none sh') : wpAny (model X.prog X.w) X.A (call (.builtin "set.add") [.ref D, .ref p.1]) Q E sh := by
  have R0 : SetD0 X.prog X.w sh.heap D L := (J.hok D _ hD).1
  obtain ⟨es, ep, t, h1, h2, h3, h4, h6, h7, h8⟩ := R0.ex
  have el : ∀ q ∈ p :: L, El sh.heap (Value.ref q.1, q.2) := fun q hq => by
    obtain ⟨a1, a2, a3⟩ := hk q hq
    exact el_of J a1 a2 a3
  have R : SetD X.prog X.w sh.heap D (elsOf L) es ep t := ⟨h1, h2, h3, h4, fun q hq => by
    obtain ⟨q', hq', rfl⟩ := List.mem_map.mp hq
    exact el q' (List.mem_cons_of_mem _ hq'), h6, h7, h8⟩
  have xx := el p List.mem_cons_self
  have ty : Shared.TypeIs sh (.ref D) "set" := by
    obtain ⟨o, ho, hx, _⟩ := h1
    exact ⟨o, ho, hx.1⟩
  refine wpAny_call_entry F.slot_set_add ty F.entry_set_add ?_ (F.args_set_add_2 _ _)
  unfold Builtin.«set.add» Builtin.Frozenset.oneOther
  simp only [List.isEmpty_nil, bind_assoc]
  unfold Builtin.Frozenset.addrOf setAdd
  refine wpAny_bind (wpAny_pure ?_)
  try dsimp only
  refine wpAny_bind (wpAny_pure ?_)
  try dsimp only
  refine wpAny_bind ?_
  refine wpAny_holding ?_
  obtain ⟨as, rd⟩ := xx.is
  refine wpAny_bind ((hash_ok _).1 p.2 _ as _ sh _ (Nat.le_refl _) xx.key rd rfl (by have : p.2.depth ≤ 8 := xx.dep; show _ + 1 + _ < cLine; omega) fun tk htk => ?_)
  refine add_el (s := { sh with toks := tk }) R xx (by show _ + 1 + _ < cLine; omega) (by unfold elsOf; rw [List.length_map]; exact room) fun b h' L' es' ep' t' bz S c1 c2 => ?_
  have perm : ∀ q ∈ L', q ∈ elsOf (p :: L) := fun q hq => by
    rcases Classical.em (p.2 ∈ (elsOf L).map (·.2)) with cz | cz
    · rw [c1 cz] at hq
      exact List.mem_cons_of_mem _ hq
    · exact (c2 cz).mem_iff.mp hq
  obtain ⟨L2, e2, m2⟩ := els_back perm
  subst e2
  have nd : (L2.map (·.2)).Nodup := by rw [← els_snd]; exact S.nd
  have mem : ∀ d, d ∈ L2.map (·.2) ↔ d = p.2 ∨ d ∈ L.map (·.2) := fun d => by
    rw [← els_snd L2, ← els_snd L]
    rcases Classical.em (p.2 ∈ (elsOf L).map (·.2)) with cz | cz
    · rw [c1 cz]
      exact ⟨.inr, fun z => z.elim (fun e => by rw [e]; exact cz) id⟩
    · rw [((c2 cz).map (·.2)).mem_iff, List.map_cons, List.mem_cons]
  have len : L2.length ≤ L.length + 1 := by
    rcases Classical.em (p.2 ∈ (elsOf L).map (·.2)) with cz | cz
    · have := congrArg List.length (c1 cz)
      unfold elsOf at this
      rw [List.length_map, List.length_map] at this
      omega
    · have := (c2 cz).length_eq
      unfold elsOf at this
      rw [List.length_cons, List.length_map, List.length_map] at this
      omega
  have old : ∀ b o, b ≠ D → sh.heap.get? b = some o → h'.get? b = some o := fun b o hb e => (bz.2 b hb).trans e
  have he : ∃ u, h'.get? D = some u := by
    obtain ⟨o, ho, _⟩ := S.ob
    exact ⟨o, ho⟩
  show wpAny _ _ (ret Value.none) _ _ _
  exact wpAny_pure ⟨_, rfl, k _ L2 ⟨m2, nd, mem, len⟩ (J.write (e := D) (t' := tk) (by rw [hD]; trivial) (.inl rfl) (fun b u hb hu => old b u hb hu) he (setDO_new ⟨es', ep', t', S.ob, S.rows, S.tab, S.nd, S.led, S.room, S.few⟩))⟩
def tScD (K : PySem.W.Frag) (P : Program) (w : World) (wi : TI) (g : TG) (tt : TT) (te : TE) (vs : List Nat) : TE := fun τ G Q => wi τ G fun It G1 => ∀ D, G1 D = none → ∃ Wd : Nat → Nat → Hp → Prop, (∃ m, Wd 0 m (upd G1 D (SetDO P w D []))) ∧ ∀ i m G', Wd i m G' →
  (It.stop i G' ∧ Q (.ref D) G') ∨ (It.go i G' ∧ ∃ Nxt : Hp → Prop, (∀ Ha, Nxt Ha → ∃ m', m' < m ∧ Wd (i + 1) m' Ha) ∧ ∀ x Hb, It.yld i G' x Hb → g x (wipe τ vs) Hb fun τ2 G2 => wipe τ2 vs = wipe τ vs ∧ tt τ2 G2 fun b G3 =>
    if b = true then te τ2 G3 fun y G4 => ∃ (p : Addr × PyData) (L : Ks), y = .ref p.1 ∧ G4 D = some (SetDO P w D L) ∧ (∀ q ∈ p :: L, Dl.Da K G4 (.ref q.1) q.2 ∧ keyD q.2 = true ∧ q.2.depth ≤ 8) ∧ L.length + 1 < 64 ∧ ∀ L', AddTo p L L' → Nxt (upd G4 D (SetDO P w D L')) else Nxt G3)
theorem nd_fresh {P : Program} {w : World} {h : Heap} : SetD0 P w (h.push { cls := .type "set", dict := none, data := .set #[] 0 (.fresh 0 0 (!w.params.followText "set-order")) }) h.objs.size [] := by
  have R := setD_fresh (P := P) (w := w) (Heap.get?_push_size h rfl)
  exact ⟨_, _, _, R.ob, R.rows, R.tab, R.nd, R.led, R.room, R.few⟩
section
variable {elt tg iter : Expr} {ifs : List Expr} {scope : Scope} {own : List (PySem.Str × Nat)} {wI : TI} {g : TG} {tT : TT} {tE : TE}
/-- the block's walk is at rest between its turns -/
theorem at_rest {sh : Shared} {G G' : Hp} {env : Env} {fps : List Addr} {τ : L2.St} {sk : Shared} (J : Inv (X.blk sh G scope env fps) [] τ G' sk) (no : ∀ b ∈ fps, G' b = none) : ∀ b ∈ fps, FpOk (X.blk sh G scope env fps) [] G' b := fun b hb => by
  have away := J.ok.exf b hb
  exact ⟨no b hb, away.1, J.ok.exfs b hb, .inl hb, fun x c e => away.2 x c e, fun q hq => (List.not_mem_nil (show q ∈ ([] : List (Addr × Obj)) from by simpa using hq)).elim⟩
theorem pe_scD (hc : X.calm = true) (hN : X.N.Nodup) (hi : PI X tg iter wI) (ok : BlkOk X.N X.env.scope scope own)
    (hg : ∀ (sh : Shared) (G : Hp) (C : Addr) (cl : List (PySem.Str × Addr)) (fps : List Addr), PG (X.blk sh G scope (compEnvC scope cl C X.env) fps) tg g)
    (ht : ∀ (sh : Shared) (G : Hp) (C : Addr) (cl : List (PySem.Str × Addr)) (fps : List Addr), PTs (X.blk sh G scope (compEnvC scope cl C X.env) fps) ifs tT)
    (he : ∀ (sh : Shared) (G : Hp) (C : Addr) (cl : List (PySem.Str × Addr)) (fps : List Addr), PE (X.blk sh G scope (compEnvC scope cl C X.env) fps) elt tE)
    (hu : X.A.units + 64 < cLine) (hs : ∀ x, foldedSetIterable iter X.env x = pure x := by intro _; rfl) :
    PE X (.SetComp elt [⟨tg, iter, ifs, 0⟩] scope pos) (tScD X.K X.prog X.w wI g tT tE (own.map (·.2))) := by
  constructor
  intro pz sh τ G Q J hte
  rw [PpSet.eval_SetComp]
  have caps : ∀ y ∈ scope.names, y.2 = .free → ∃ c, X.env.cells.lookup y.1 = some c := fun y hy e =>
    (ok.free y hy e).elim (fun k => J.ok.has _ (.inl k)) fun k => J.ok.has _ (.inr k)
  refine wpAny_comprehension_free (use := none) rfl hs (closure_ok caps) ok.kind (fun y hy e => by rw [ok.uniq y hy, e]) ?_
  apply thn (hi.run pz sh τ G _ J hte)
  intro xv sh1 walked
  apply thn walked
  rintro _ sh2 ⟨itr, fps, Tn, It, G2, rfl, J2, TT, tz, fz, rest⟩
  apply PpSet.newSet_ok
  apply newEnv_comp
  have free2 : G2 sh2.heap.objs.size = none := J2.hok.fresh (Nat.le_refl _)
  obtain ⟨Wd, ⟨mz, wz⟩, trn⟩ := rest _ free2
  -- the empty set lies in the heap
  obtain ⟨sh3, e3⟩ : ∃ z : Shared, z = { sh2 with heap := sh2.heap.push { cls := .type "set", dict := none, data := .set #[] 0 (.fresh 0 0 (!X.w.params.followText "set-order")) } } := ⟨_, rfl⟩
  have J3 : Inv X pz τ (upd G2 sh2.heap.objs.size (SetDO X.prog X.w sh2.heap.objs.size [])) sh3 := by
    rw [e3]
    exact J2.laid (t' := sh2.toks) (fun b o e => Heap.get?_push_of_some _ e) (Nat.le_refl _) (setDO_new nd_fresh)
  have more : ∀ b o, sh2.heap.get? b = some o → sh3.heap.get? b = some o := fun b o e => by
    rw [e3]
    exact Heap.get?_push_of_some _ e
  have size3 : sh3.heap.objs.size = sh2.heap.objs.size + 1 := by rw [e3]; exact Heap.size_push ..
  rw [← e3]
  clear e3
  obtain ⟨D, eD⟩ : ∃ z, z = sh2.heap.objs.size := ⟨_, rfl⟩
  rw [← eD] at J3 wz trn free2 size3 ⊢
  have below : ∀ b ∈ fps, b < D := fun b hb => by
    obtain ⟨o, e, _⟩ := TT.obj _ _ tz b hb
    rw [eD]
    exact Heap.lt_size e
  have known : ∀ b ∈ fps, FpOk X pz (upd G2 D (SetDO X.prog X.w D [])) b ∧ b < sh3.heap.objs.size := fun b hb => by
    have lt := below b hb
    have f := fz b hb
    exact ⟨⟨by rw [upd_ne (Nat.ne_of_lt lt)]; exact f.1, f.2⟩, by rw [size3]; exact Nat.lt_succ_of_lt lt⟩
  have tz3 : Tn 0 sh3.heap := TT.keep _ _ _ tz fun b _ o e => more b o e
  have J4 := block_start J3 ok hN known
  obtain ⟨C, eC⟩ : ∃ z, z = sh3.heap.objs.size := ⟨_, rfl⟩
  obtain ⟨cl, ecl⟩ : ∃ z, z = cellsFrom (sh3.heap.objs.size + 1) scope.names (cloFrom X.env.cells scope.names []) := ⟨_, rfl⟩
  obtain ⟨G3, eG⟩ : ∃ z, z = upd G2 D (SetDO X.prog X.w D []) := ⟨_, rfl⟩
  obtain ⟨sh4, e4⟩ : ∃ z : Shared, z = { sh3 with heap := pushCells (sh3.heap.push { cls := .type "dict", data := .dict #[] }) scope.names } := ⟨_, rfl⟩
  have keep4 : ∀ b o, sh3.heap.get? b = some o → sh4.heap.get? b = some o := fun b o e => by
    rw [e4]
    exact pushCells_keeps _ _ _ _ (Heap.get?_push_of_some _ e)
  rw [← e4, ← eG, ← ecl, ← eC] at J4
  rw [← eG] at J3 wz known
  show codeAny _ _ (.compStart (.SetComp elt [⟨tg, iter, ifs, 0⟩] scope pos) 0 (.ref itr) (.ref D) (compEnvC scope (cellsFrom (sh3.heap.objs.size + 1) scope.names (cloFrom X.env.cells scope.names [])) sh3.heap.objs.size X.env)) (compPost (model X.prog X.w) X.A X.xe none (EP X pz τ Q) (.ref D) sh3.heap.objs.size) { sh3 with heap := pushCells (sh3.heap.push { cls := .type "dict", data := .dict #[] }) scope.names }
  rw [← e4, ← ecl, ← eC]
  have aim : ∀ m (sk : Shared) (Gk : Hp), Inv X pz τ Gk sk → Q (.ref D) Gk → sk.heap.Ns C m → FpOk X pz Gk C → compPost (model X.prog X.w) X.A X.xe none (EP X pz τ Q) (.ref D) C (.ok .next) sk := fun m sk Gk Jk qk nk fk =>
    ⟨m, nk, fun hh sb => ⟨.ref D, Gk, Jk.turned (t' := sk.toks) (fun b o hb e => (sb.2 b hb).trans e) fk.1 fk.2.1 fk.2.2.2.1 fk.2.2.2.2.1 fk.2.2.2.2.2, rfl, qk⟩⟩
  have inner : codeAny (model X.prog X.w) X.A (.compLoop (.SetComp elt [⟨tg, iter, ifs, 0⟩] scope pos) 0 (.ref itr) (.ref D) (compEnvC scope cl C X.env)) (compPost (model X.prog X.w) X.A X.xe none (EP X pz τ Q) (.ref D) C) sh4 := by
    refine PpSet.compLoopS_any (fun n sk => ∃ i Gk, Inv (X.blk sh3 G3 scope (compEnvC scope cl C X.env) fps) [] (wipe τ (own.map (·.2))) Gk sk ∧ Tn i sk.heap ∧ (∀ b ∈ fps, Gk b = none) ∧ Wd i n Gk) ?_ mz ⟨0, G3, J4, TT.keep _ _ _ tz3 fun b _ o e => keep4 b o e, fun b hb => (known b hb).1.1, wz⟩
    rintro n sk ⟨i, Gk, Jk, tk, nk, wk⟩
    cases trn i n Gk wk with
    | inl over =>
      have ends := TT.done (X.blk sh3 G3 scope (compEnvC scope cl C X.env) fps) rfl rfl rfl hc i [] sk _ Gk (fun _ _ => False) Jk (at_rest Jk nk) tk over.1
      apply thnF ends
      rintro r sl ⟨rfl, Jl⟩
      have back : Inv X pz τ Gk sl := J3.call' (ch := fps) Jl.os Jl.base Jl.hok Jl.bare fun b hb => by
        have f := (known b hb).1
        exact ⟨f.2.2.2.1, f.2.1, f.2.2.2.2.1, f.2.2.2.2.2⟩
      have none_C : Gk C = none := Jl.free
      obtain ⟨m, ns, _⟩ := Jl.loc
      exact aim m sl Gk back over.2 ns (by rw [eC] at none_C ⊢; exact J3.fpOk (Nat.le_refl _) none_C)
    | inr on =>
      obtain ⟨gon, Nxt, less, take⟩ := on
      have gives := TT.item (X.blk sh3 G3 scope (compEnvC scope cl C X.env) fps) rfl rfl rfl hc i [] sk _ Gk (fun _ _ => False) Jk (at_rest Jk nk) tk gon
      apply thnF gives
      rintro r sl ⟨u, rfl, after⟩
      apply thnF after
      rintro _ sm ⟨x, Gm, Jm, rx, yx, tm, nm⟩
      have Jp := Jm.pinned (at_rest Jm nm) (TT.obj _ _ tm)
      -- from the turn's last state to the next turn's first
      have next : ∀ {τ' : L2.St} {sq : Shared} {Gq : Hp}, wipe τ' (own.map (·.2)) = wipe τ (own.map (·.2)) → Inv (X.blk sh3 G3 scope (compEnvC scope cl C X.env) fps) ([] ++ pinsAt fps sm.heap) τ' Gq sq → Nxt Gq →
          ∃ m, m < n ∧ ∃ i Gr, Inv (X.blk sh3 G3 scope (compEnvC scope cl C X.env) fps) [] (wipe τ (own.map (·.2))) Gr sq ∧ Tn i sq.heap ∧ (∀ b ∈ fps, Gr b = none) ∧ Wd i m Gr := fun {τ' sq Gq} same Jq nx => by
        obtain ⟨m, lt, wq⟩ := less Gq nx
        have stays : ∀ b ∈ fps, ∀ o, sm.heap.get? b = some o → sq.heap.get? b = some o ∧ Gq b = none := fun b hb o e => by
          have z := Jq.pin (b, o) (List.mem_append_right _ (List.mem_append_right _ (mem_pinsAt hb e)))
          exact ⟨z.1, z.2.1⟩
        refine ⟨m, lt, i + 1, Gq, (Jq.unpinned (pins := [])).weak ?_ ?_, TT.keep _ _ _ tm fun b hb o e => (stays b hb o e).1, fun b hb => ?_, wq⟩
        · rw [← same, wipe_length]
        · intro j v e
          rw [← same] at e
          exact (wipe_some e).1
        · obtain ⟨o, e, _⟩ := TT.obj _ _ tm b hb
          exact (stays b hb o e).2
      apply thnF ((hg sh3 G3 C cl fps).run _ sm _ Gm x u _ Jp rx (take x Gm yx))
      rintro _ s5 ⟨τ5, G5, J5, same, more5⟩
      apply thnF ((ht sh3 G3 C cl fps).run _ s5 τ5 G5 _ J5 more5)
      rintro b s6 ⟨G6, J6, q6⟩
      cases b with
      | false => exact next same J6 q6
      | true =>
        rw [if_pos rfl] at q6 ⊢
        apply thnF ((he sh3 G3 C cl fps).run _ s6 τ5 G6 _ J6 q6)
        rintro z s7 ⟨yv, G7, J7, r7, p, L, ey, dD, all, room, nx⟩
        subst ey
        cases r7
        exact addD_ok (X := X.blk sh3 G3 scope (compEnvC scope cl C X.env) fps) J7 dD all room hu fun s8 L' add J8 => next same J8 (nx L' add)
  exact PpSet.codeAny_compStart_set inner (TT.self X.A 0 _ _ _ (TT.keep _ _ _ tz3 fun b _ o e => keep4 b o e) inner)
end
/-! ### by data -/
structure Fits (L : List PyData) : Prop where
  key : ∀ d ∈ L, keyD d = true
  dep : ∀ d ∈ L, d.depth ≤ 8
  tup : ∀ d ∈ L, ∃ es, d = .tuple es
  few : L.length < 64
theorem scD_run {elt tg iter : Expr} {ifs : List Expr} {scope : Scope} {own : List (PySem.Str × Nat)} {gt : TG} {js : List Nat} {g : Gt} {di : DL} {dt : DT} {de : DE} (hi : RI X tg iter di) (hT : TgOk X.K gt js g) (hjs : ∀ j ∈ js, j ∈ own.map (·.2))
    (ht : ∀ (s : Shared) (H : Hp) (C : Addr) (cl : List (PySem.Str × Addr)) (fp : List Addr), RC (X.blk s H scope (compEnvC scope cl C X.env) fp) ifs dt)
    (he : ∀ (s : Shared) (H : Hp) (C : Addr) (cl : List (PySem.Str × Addr)) (fp : List Addr), RE (X.blk s H scope (compEnvC scope cl C X.env) fp) elt de)
    {π : Option Pen} {W : WX} {S1 : Hp} {σ : L2.St} {M H : Hp} {fm : Fm} {s : Ps} {Q : VK} {P : Program} {w : World} (c : Cnt X π W S1 σ M H fm s) (fits : ∀ L sL, dLcL di g (own.map (·.2)) dt de fm s = .ok L sL → Fits L)
    (k : Fin X π W σ M H (fun L _ M' H' => ∀ D (Lk : Ks), M' D = none → H' D = some (SetDO P w D Lk) → (∀ q ∈ Lk, Da X.K M' (.ref q.1) q.2) → (Lk.map (·.2)).Nodup → (∀ d, d ∈ Lk.map (·.2) ↔ d ∈ L) → Q (.ref D) H') (dLcL di g (own.map (·.2)) dt de fm s)) :
    tScD X.K P w (iMax X tg iter) gt (ttB X scope ifs) (teB X scope elt) (own.map (·.2)) σ H Q := by
  have fits2 := fits
  unfold dLcL at fits2
  refine hi π W S1 σ M H fm s _ c ?_
  -- what the walk's row is, is known ahead
  cases er : di fm s with
  | exc cc ds s1 =>
    unfold dLcL Mo.bind at k
    rw [er] at k
    exact k
  | bad =>
    unfold dLcL Mo.bind at k
    rw [er] at k
    exact k
  | ok xs s' =>
  unfold dLcL at k
  intro N H2 t J wk D hD
  have c1 := c.step t
  have k1 := fin_bind c.ok k
  rw [er] at k1
  have k2 := k1 N H2 t
  have fits3 : ∀ L sL, (lcGo g dt de (wipeF fm (own.map (·.2))) xs s' = .ok L sL) → xs.length ≤ 40000 → Fits L := fun L sL e fw => by
    refine fits2 L sL ?_
    unfold Mo.bind
    rw [er]
    simp only [few, if_pos fw, Mo.of, Mo.nox, e]
  obtain ⟨_, efew, k3⟩ := fin_of (fin_bind c1.ok k2) c1.ok
  have hlen := (few_of efew).1
  specialize k3 N H2 c1.ok.step
  obtain ⟨L, sL, eL, kf⟩ := fin_nox k3
  have ff := fits3 L sL eL hlen
  have nD : N D = none := fresh_back c1.ok.ex hD
  let Sv := fun (i : Nat) (Hc : Hp) => ∃ (Mc : Hp) (acc : List PyData) (Lk : Ks) (si : Ps) (ys : List PyData), Mc D = none ∧ Step π si N H2 Mc Hc ∧ Hc D = some (SetDO P w D Lk) ∧ (∀ q ∈ Lk, Da X.K Mc (.ref q.1) q.2) ∧ (Lk.map (·.2)).Nodup ∧ (∀ d, d ∈ Lk.map (·.2) ↔ d ∈ acc) ∧
    lcGo g dt de (wipeF fm (own.map (·.2))) (xs.drop i) si = .ok ys sL ∧ acc ++ ys = L ∧ Lk.length ≤ acc.length
  refine ⟨fun i m Hc => m = xs.length - i ∧ i ≤ xs.length ∧ Sv i Hc, ⟨xs.length, by simp, Nat.zero_le _, ?_⟩, ?_⟩
  · exact ⟨N, [], [], s', L, nD, c1.ok.step.mut c1.ok hD nD, upd_same, fun q hq => (List.not_mem_nil hq).elim, List.nodup_nil, fun d => Iff.rfl, eL, rfl, Nat.le_refl _⟩
  rintro i m Hc ⟨rfl, hi', Mc, acc, Lk, si, ys, mD, sM, hDH, hall, hnd, hmem, eG, eA, hla⟩
  have oM := sM.ok c1.ok
  by_cases hlt : i < xs.length
  · refine .inr ⟨wk.go i Mc Hc sM.ex oM.none hlt, Sv (i + 1), fun H' p' => ⟨xs.length - (i + 1), by omega, rfl, hlt, p'⟩, fun x H' hy => ?_⟩
    obtain ⟨M', d, ed, s1, kd⟩ := wk.yld i Mc Hc x H' sM.ex oM.none hlt hy
    have s1 := Step.of_none oM s1
    have o1 := s1.ok oM
    have neD : ∀ q, π = some q → D ≠ q.p := fun q hq z => by
      rw [z, (c1.ok.pen q hq).2.1] at hD
      cases hD
    have m1D := s1.out mD (by rw [hDH]; exact fun z => by cases z)
    have h1D : H' D = some (SetDO P w D Lk) := s1.off _ _ neD hDH
    have dropE : xs.drop i = d :: xs.drop (i + 1) := by
      have at_ := List.getElem?_eq_getElem hlt
      rw [ed] at at_
      rw [List.drop_eq_getElem_cons hlt, Option.some.inj at_]
    rw [dropE] at eG
    obtain ⟨f1, b, s2, eg, et, hT1, hF1⟩ := lcGo_cons eG
    have fW := ((c1.fm.step sM).step s1).wipe (own.map (·.2))
    refine hT.run π S1 x d M' H' _ _ f1 _ kd o1.ex fW eg fun σ' f' wz _ => ⟨(wz _ hjs).trans (wipe_in fun j hj => hj), fun sh Hz C cl fp => ?_⟩
    refine ht sh Hz C cl fp π W0 S1 σ' M' H' f1 si _ ⟨takes0, o1, f'⟩ ?_
    rw [et]
    intro M2 H3 t2
    have o2 := t2.ok o1
    have m2D := t2.out m1D (by rw [h1D]; exact fun z => by cases z)
    have h2D : H3 D = some (SetDO P w D Lk) := t2.off _ _ neD h1D
    cases b with
    | false =>
      show Sv (i + 1) H3
      exact ⟨M2, acc, Lk, s2, ys, m2D, (sM.trans s1 c1.ok).trans t2 c1.ok, h2D, fun q hq => dp_ex (s1.ex.trans t2.ex) (hall q hq), hnd, hmem, hF1 rfl, eA, hla⟩
    | true =>
      obtain ⟨y, s3, zs, ey, ez, eq⟩ := hT1 rfl
      rw [if_pos rfl]
      intro sh Hz C cl fp
      refine he sh Hz C cl fp π W0 S1 σ' M2 H3 f1 s2 _ ⟨takes0, o2, f'.step t2⟩ ?_
      rw [ey]
      intro M3 H4 t3 yv ky
      have m3D := t3.out m2D (by rw [h2D]; exact fun z => by cases z)
      have h3D : H4 D = some (SetDO P w D Lk) := t3.off _ _ neD h2D
      have S := ((sM.trans s1 c1.ok).trans t2 c1.ok).trans t3 c1.ok
      have inL : y ∈ L := by rw [← eA, eq]; simp
      have accL : ∀ d ∈ acc, d ∈ L := fun d hd => by rw [← eA]; exact List.mem_append_left _ hd
      obtain ⟨es, hes⟩ := ff.tup y inL
      obtain ⟨a, rfl⟩ : ∃ a, yv = .ref a := by
        rw [hes] at ky
        obtain ⟨a, _, e, _⟩ := dp_tup ky
        exact ⟨a, e⟩
      have lenL : acc.length + 1 ≤ L.length := by rw [← eA, eq]; simp
      have few := ff.few
      have o3 := t3.ok o2
      refine ⟨(a, y), Lk, rfl, h3D, fun q hq => ?_, by omega, fun L' add => ?_⟩
      · rcases List.mem_cons.mp hq with rfl | hq
        · exact ⟨dp_ex o3.ex ky, ff.key _ inL, ff.dep _ inL⟩
        · have m := accL _ ((hmem q.2).mp (List.mem_map.mpr ⟨q, hq, rfl⟩))
          exact ⟨dp_ex (s1.ex.trans (t2.ex.trans (t3.ex.trans o3.ex))) (hall q hq), ff.key _ m, ff.dep _ m⟩
      · refine ⟨M3, acc ++ [y], L', s3, zs, m3D, S.mut c1.ok hD m3D, upd_same, fun q hq => ?_, add.nd, fun d => ?_, ez, by rw [← eA, eq, List.append_assoc]; rfl, ?_⟩
        · rcases List.mem_cons.mp (add.sub q hq) with rfl | hq
          · exact ky
          · exact dp_ex (s1.ex.trans (t2.ex.trans t3.ex)) (hall q hq)
        · rw [add.mem, hmem, List.mem_append, List.mem_singleton]
          exact Or.comm
        · have := add.len
          rw [List.length_append, List.length_singleton]
          omega
  · have e : i = xs.length := by omega
    subst e
    refine .inl ⟨wk.stop Mc Hc sM.ex oM.none, ?_⟩
    rw [List.drop_length] at eG
    have eG2 : ys = [] ∧ si = sL := by cases eG; exact ⟨rfl, rfl⟩
    obtain ⟨rfl, rfl⟩ := eG2
    rw [List.append_nil] at eA
    subst eA
    exact kf _ _ sM D Lk mD hDH hall hnd hmem
def dSortSc (di : DL) (g : Gt) (vs : List Nat) (dt : DT) (de : DE) : DE := fun fm => (dLcL di g vs dt de fm).bind fun ds => Mo.of (gSortSet (.list ds))
theorem fits_of {ds : List PyData} {z : PyData} (h : gSortSet (.list ds) = some z) : Fits ds ∧ z = .list (sortU ds) ∧ (∃ hi, Fit hi ds) := by
  unfold gSortSet at h
  dsimp only at h
  split at h
  · rename_i hf
    cases h
    obtain ⟨hi, fit⟩ := fit_of hf
    exact ⟨⟨fit.key, fit.dep, fun d hd => by obtain ⟨f, r, e, _⟩ := fit.head d hd; exact ⟨_, e⟩, fit.few⟩, rfl, hi, fit⟩
  · cases h
theorem r_sortsc {n : Nat} {elt tg iter : Expr} {ifs : List Expr} {scope : Scope} {own : List (PySem.Str × Nat)} {gt : TG} {js : List Nat} {g : Gt} {di : DL} {dt : DT} {de : DE} {p pos2 : Pos} (hc : X.calm = true) (hr : Room n X.A) (hgs : Gl X "sorted") (hms : X.mg "sorted" = none) (hN : X.N.Nodup) (hi : RI X tg iter di) (ok : BlkOk X.N X.env.scope scope own)
    (hg : ∀ (s : Shared) (H : Hp) (C : Addr) (cl : List (PySem.Str × Addr)) (fp : List Addr), PG (X.blk s H scope (compEnvC scope cl C X.env) fp) tg gt) (hT : TgOk X.K gt js g) (hjs : ∀ j ∈ js, j ∈ own.map (·.2))
    (ht : ∀ (s : Shared) (H : Hp) (C : Addr) (cl : List (PySem.Str × Addr)) (fp : List Addr), RC (X.blk s H scope (compEnvC scope cl C X.env) fp) ifs dt)
    (he : ∀ (s : Shared) (H : Hp) (C : Addr) (cl : List (PySem.Str × Addr)) (fp : List Addr), RE (X.blk s H scope (compEnvC scope cl C X.env) fp) elt de) (hs : ∀ x, foldedSetIterable iter X.env x = pure x := by intro _; rfl)
    (h3 : starEach [.SetComp elt [⟨tg, iter, ifs, 0⟩] scope pos2] X.env = (false, eval (.SetComp elt [⟨tg, iter, ifs, 0⟩] scope pos2) X.env) :: starEach [] X.env := by rfl) (h4 : (backTo pos (starEach [] X.env)).any (·.1) = false := by rfl) :
    RE X (.Call (.Name "sorted" p) [.SetComp elt [⟨tg, iter, ifs, 0⟩] scope pos2] [] pos) (dSortSc di g (own.map (·.2)) dt de) := fun π W S1 σ M H fm s Q c k => by
  refine of_pe (pe_callB (cr_sortedD hc hr.units) hgs hms (by decide +kernel) (pa_cons (pe_scD (pos := pos2) hc hN piMax ok hg ptB peB hr.units hs) pa_nil h3) (by decide) (by decide) h3 h4) ?_
  show tScD X.K X.prog X.w (iMax X tg iter) gt (ttB X scope ifs) (teB X scope elt) (own.map (·.2)) σ H fun x H1 => rSortedD X.K X.prog X.w [x] H1 Q
  refine scD_run hi hT hjs ht he c (fun L sL e => ?_) ?_
  · unfold dSortSc Mo.bind at k
    rw [e] at k
    cases z : gSortSet (.list L) with
    | none =>
      simp only [z, Mo.of] at k
      exact k.elim
    | some y => exact (fits_of z).1
  · refine (fin_bind c.ok k).mono fun L s' N H2 t kf D Lk nD hD hall hnd hmem => ?_
    have c1 := c.step t
    obtain ⟨z, ez, kf⟩ := fin_of kf c1.ok
    obtain ⟨ff, rfl, hi2, fit⟩ := fits_of ez
    have ins : ∀ q ∈ Lk, q.2 ∈ L := fun q hq => (hmem q.2).mp (List.mem_map.mpr ⟨q, hq, rfl⟩)
    refine ⟨D, Lk, hi2, rfl, hD, fun q hq => ⟨dp_ex c1.ok.ex (hall q hq), ff.key _ (ins q hq), ff.dep _ (ins q hq)⟩, fun q hq => fit.head _ (ins q hq), fun q hq r hr => fit.lk _ (ins q hq) _ (ins r hr), fun L' p' pm pw hp => ?_⟩
    have s4 := c1.ok.none.new hp (Ex.new hp) (upd_same (o := .lst (L'.map fun q => V.ref q.1)))
    have nd' : (L'.map (·.2)).Nodup := (pm.map (·.2)).nodup_iff.mpr hnd
    have up : Asc (L'.map (·.2)) := by
      refine List.pairwise_map.mpr (List.Pairwise.imp_of_mem (fun {x y} hx hy z => ?_) (List.Pairwise.and pw (List.pairwise_map.mp nd')))
      rcases enc_tri (fit.lk _ (ins x (pm.mem_iff.mp hx)) _ (ins y (pm.mem_iff.mp hy))) with e | e | e
      · exact absurd e z.2
      · exact e
      · exact absurd e z.1
    have mem : ∀ x, x ∈ L'.map (·.2) ↔ x ∈ L := fun x => (pm.map (·.2)).mem_iff.trans (hmem x)
    have eq : L'.map (·.2) = sortU L := asc_uniq up (asc_sortU fit.lk) fun x => (mem x).trans (mem_sortU fit.lk).symm
    refine kf _ _ (Step.of_none c1.ok s4) _ ?_
    rw [← eq]
    exact .lst (sq_of upd_same) (das_of fun q hq => dp_ex s4.ex (hall q (pm.mem_iff.mp hq)))
end Rf

set_option maxRecDepth 100000
set_option maxHeartbeats 4000000
namespace Rf
open PySem PySem.Spec PyProof.Rows L2 Gd Dt Dl Ee Sd
def b_place_in : DS := (dThen (dNew 2)
    (dThen (dSet 3 (dC (.int 0)))
    (dThen (dSet 4 (dOp gSub (dCb gLen (dCons (dV 1) dNil)) (dCb gLen (dCons (dV 0) dNil))))
    (dThen (dFor (dSeq (dV 0)) (gtN 5) (dThen (dWhile WN (dAndT (dB (dOp gLe (dV 3) (dV 4))) (dB (dOp gLt (dOp gIx (dV 1) (dV 3)) (dV 5)))) (dAug 3 gAddI (dC (.int 1))))
    (dThen (dIfS (dB (dOp gGt (dV 3) (dV 4))) (dRet (dC .none)) dSkip)
    (dThen (dApp 2 (dV 3))
    (dThen (dAug 3 gAddI (dC (.int 1)))
    (dAug 4 gAddI (dC (.int 1))))))))
    (dFrz 2 (dRet (dCb gTupOf (dCons (dV 2) dNil))))))))
def f_place_in : Gf := fnSem 6 b_place_in
def b_step_at : DS := (dThen (dAsg (gtT [3, 3, 4]) (dV 0))
    (dThen (dAsg (gtT [3, 5]) (dOp gIx (dV 4) (dV 1)))
    (dRet (dOp gIx (dV 5) (dV 2)))))
def f_step_at : Gf := fnSem 6 b_step_at
def b_all_steps : DS := (dThen (dAsg (gtT [1, 1, 2]) (dV 0))
    (dRet (dLc2 (dIt asEnT (dCons (dV 2) dNil)) (gtT [3, 4]) [3, 4, 5] dYes (dIt asR1 (dCons (dCb gLen (dCons (dOp gIx (dV 4) (dC (.int 1))) dNil)) dNil)) (gtN 5) [5] dYes (dTup (dCons (dV 3) (dCons (dV 5) dNil))))))
def f_all_steps : Gf := fnSem 6 b_all_steps
def b_exchanged : DS := (dRet (dOp gAdd (dOp gAdd (dSl (dV 0) dNoP (dP (dV 1))) (dTup (dCons (dV 2) dNil))) (dSl (dV 0) (dP (dOp gAdd (dV 1) (dC (.int 1)))) dNoP)))
def f_exchanged : Gf := fnSem 3 b_exchanged
def b_lets_do : DS := (dThen (dIfS (dB (dOp gEq (dOp gIx (dV 1) (dC (.int 0))) (dC (.str "take")))) (dThen (dAsg (gtT [2, 3, 4]) (dV 1))
    (dRet (dOp gEq (dSl (dOp gIx (dV 0) (dV 3)) dNoP (dP (dC (.int 1)))) (dTup (dCons (dV 4) dNil))))) dSkip)
    (dThen (dIfS (dB (dOp gEq (dOp gIx (dV 1) (dC (.int 0))) (dC (.str "test")))) (dRet (dOp gEq (dOp gIx (dV 0) (dOp gIx (dV 1) (dC (.int 1)))) (dTup dNil))) dSkip)
    (dRet (dC (.bool true)))))
def f_lets_do : Gf := fnSem 5 b_lets_do
def b_law_fresh : DS := (dThen (dPar 1 2 (dCons (dPenIx 0 1) (dCons (dPenIx 0 0) dNil)))
    (dThen (dPenSet 0 1 (dOp gAdd (dV 1) (dC (.int 1))))
    (dThen (dSet 3 (dIf (dB (dOp gNe (dV 2) (dLst dNil))) (dOp gIx (dV 2) (dOp gMod (dCb gInt (dCons (dV 1) dNil)) (dCb gLen (dCons (dV 2) dNil)))) (dC (.int 0))))
    (dThen (dIfS (dAndT (dB (dOp gLt (dV 1) (dCb gLen (dCons (dV 2) dNil)))) (dB (dOp gGe (dV 3) (dOp gPow (dC (.int 10)) (dC (.int 18)))))) (dRet (dOp gSub (dV 3) (dOp gPow (dC (.int 10)) (dC (.int 18))))) dSkip)
    (dThen (dSet 4 (dC (.int 2305843009213693951)))
    (dThen (dSet 5 (dOp gMod (dCb gInt (dCons (dOp gAdd (dOp gAdd (dOp gMul (dV 3) (dC (.int 48271))) (dOp gMul (dC (.int 60013)) (dV 1))) (dC (.int 31))) dNil)) (dV 4)))
    (dThen (dSet 6 (dV 5))
    (dThen (dFor (dIt asR1 (dCons (dC (.int 6)) dNil)) (gtN 7) (dThen (dSet 5 (dOp gMod (dCb gInt (dCons (dOp gAdd (dOp gAdd (dOp gMul (dV 5) (dV 5)) (dOp gMul (dOp gMul (dC (.int 70139)) (dOp gAdd (dV 7) (dC (.int 5)))) (dOp gAdd (dV 1) (dC (.int 1))))) (dV 3)) dNil)) (dV 4)))
    (dSet 6 (dOp gAdd (dOp gMul (dV 6) (dV 4)) (dV 5)))))
    (dRet (dV 6))))))))))
def f_law_fresh : Gf := fnSem 8 b_law_fresh
def b_law_at : DS := (dRet (dOp gAdd (dOp gAdd (dSl (dV 0) dNoP (dP (dV 1))) (dTup (dCons (dV 2) dNil))) (dSl (dV 0) (dP (dOp gAdd (dV 1) (dC (.int 1)))) dNoP)))
def f_law_at : Gf := fnSem 3 b_law_at
def b_law_is_held : DS := (dThen (dSet 2 (dC (.int 0)))
    (dThen (dFor (dSeq (dV 1)) (gtN 3) (dIfS (dAndT (dB (dOp gLt (dV 2) (dCb gLen (dCons (dV 0) dNil)))) (dB (dOp gLe (dOp gIx (dV 0) (dV 2)) (dV 3)))) (dSet 2 (dOp gAdd (dV 2) (dC (.int 1)))) dSkip))
    (dRet (dOp gEq (dV 2) (dCb gLen (dCons (dV 0) dNil))))))
def f_law_is_held : Gf := fnSem 4 b_law_is_held
def b_law_all_pairs : DS := (dThen (dNew 1)
    (dThen (dFor (dIt asR1 (dCons (dCb gLen (dCons (dOp gIx (dV 0) (dC (.int 2))) dNil)) dNil)) (gtN 2) (dExt 1 (dLcL (dIt asR1 (dCons (dCb gLen (dCons (dOp gIx (dOp gIx (dOp gIx (dV 0) (dC (.int 2))) (dV 2)) (dC (.int 1))) dNil)) dNil)) (gtN 3) [3] dYes (dTup (dCons (dV 2) (dCons (dV 3) dNil))))))
    (dFrz 1 (dRet (dV 1)))))
def f_law_all_pairs : Gf := fnSem 4 b_law_all_pairs
def b_is_within : DS := (dRet (dNotN (dCall 2 f_place_in (dACons (dV 0) (dACons (dV 1) dANil)))))
def f_is_within : Gf := fnSem 2 b_is_within
def b_words_after : DS := (dThen (dIfS (dB (dOp gEq (dOp gIx (dV 1) (dC (.int 0))) (dC (.str "send")))) (dThen (dAsg (gtT [2, 3, 4]) (dV 1))
    (dRet (dCall 3 f_exchanged (dACons (dV 0) (dACons (dV 3) (dACons (dOp gAdd (dOp gIx (dV 0) (dV 3)) (dTup (dCons (dV 4) dNil))) dANil)))))) dSkip)
    (dThen (dIfS (dB (dOp gEq (dOp gIx (dV 1) (dC (.int 0))) (dC (.str "take")))) (dThen (dSet 3 (dOp gIx (dV 1) (dC (.int 1))))
    (dRet (dCall 3 f_exchanged (dACons (dV 0) (dACons (dV 3) (dACons (dSl (dOp gIx (dV 0) (dV 3)) (dP (dC (.int 1))) dNoP) dANil)))))) dSkip)
    (dRet (dV 0))))
def f_words_after : Gf := fnSem 5 b_words_after
def b_can_do : DS := (dThen (dAsg (gtT [4, 5]) (dV 1))
    (dThen (dAsg (gtT [6, 7, 8]) (dCall 3 f_step_at (dACons (dV 0) (dACons (dV 2) (dACons (dV 3) dANil)))))
    (dRet (dAnd (dOp gEq (dOp gIx (dV 4) (dV 2)) (dV 6)) (dCall 2 f_lets_do (dACons (dV 5) (dACons (dV 7) dANil)))))))
def f_can_do : Gf := fnSem 9 b_can_do
def b_law_draw : DS := (dThen (dIfS (dB (dOp gLt (dPenIx 0 2) (dV 1))) (dPenSet 0 2 (dCall 1 f_law_fresh (dAPen 0 dANil))) dSkip)
    (dThen (dSet 2 (dOp gMod (dCb gInt (dCons (dPenIx 0 2) dNil)) (dV 1)))
    (dThen (dPenSet 0 2 (dOp gDiv (dCb gInt (dCons (dPenIx 0 2) dNil)) (dV 1)))
    (dRet (dV 2)))))
def f_law_draw : Gf := fnSem 3 b_law_draw
def b_law_stands_above : DS := (dThen (dIfS (dB (dOp gNe (dOp gIx (dV 0) (dC (.int 0))) (dOp gIx (dV 1) (dC (.int 0))))) (dRet (dC (.bool false))) dSkip)
    (dRet (dOp gEq (dLc (dIt asZip (dCons (dOp gIx (dV 0) (dC (.int 1))) (dCons (dOp gIx (dV 1) (dC (.int 1))) dNil))) (gtT [2, 3]) [2, 3] (dNotT (dB (dCall 2 f_law_is_held (dACons (dV 3) (dACons (dV 2) dANil))))) (dC (.int 1))) (dLst dNil))))
def f_law_stands_above : Gf := fnSem 4 b_law_stands_above
def b_law_after : DS := (dThen (dAsg (gtT [4, 5, 6]) (dOp gIx (dOp gIx (dOp gIx (dOp gIx (dV 0) (dC (.int 2))) (dV 2)) (dC (.int 1))) (dV 3)))
    (dThen (dNewLs 7 (dCons (dOp gIx (dV 1) (dC (.int 1))) dNil))
    (dThen (dIfS (dB (dOp gNe (dOp gIx (dOp gIx (dV 1) (dC (.int 0))) (dV 2)) (dV 4))) (dRet (dLst dNil)) dSkip)
    (dThen (dIfS (dB (dOp gEq (dOp gIx (dV 5) (dC (.int 0))) (dC (.str "send")))) (dIxSet 7 (dOp gAdd (dIxO 7 (dOp gIx (dV 5) (dC (.int 1)))) (dTup (dCons (dOp gIx (dV 5) (dC (.int 2))) dNil))) (dOp gIx (dV 5) (dC (.int 1)))) dSkip)
    (dThen (dIfS (dB (dOp gEq (dOp gIx (dV 5) (dC (.int 0))) (dC (.str "take")))) (dThen (dIfS (dOrT (dB (dOp gEq (dIxO 7 (dOp gIx (dV 5) (dC (.int 1)))) (dTup dNil))) (dB (dOp gNe (dOp gIx (dIxO 7 (dOp gIx (dV 5) (dC (.int 1)))) (dC (.int 0))) (dOp gIx (dV 5) (dC (.int 2)))))) (dRet (dLst dNil)) dSkip)
    (dIxSet 7 (dSl (dIxO 7 (dOp gIx (dV 5) (dC (.int 1)))) (dP (dC (.int 1))) dNoP) (dOp gIx (dV 5) (dC (.int 1))))) dSkip)
    (dThen (dIfS (dAndT (dB (dOp gEq (dOp gIx (dV 5) (dC (.int 0))) (dC (.str "test")))) (dB (dOp gNe (dIxO 7 (dOp gIx (dV 5) (dC (.int 1)))) (dTup dNil)))) (dRet (dLst dNil)) dSkip)
    (dFrz 7 (dRet (dLst (dCons (dTup (dCons (dCall 3 f_law_at (dACons (dOp gIx (dV 1) (dC (.int 0))) (dACons (dV 2) (dACons (dV 6) dANil)))) (dCons (dCb gTupOf (dCons (dV 7) dNil)) dNil))) dNil))))))))))
def f_law_after : Gf := fnSem 8 b_law_after
def b_are_within : DS := (dThen (dFor (dIt asZip (dCons (dV 0) (dCons (dV 1) dNil))) (gtT [2, 3]) (dIfS (dNotT (dB (dCall 2 f_is_within (dACons (dV 2) (dACons (dV 3) dANil))))) (dRet (dC (.bool false))) dSkip))
    (dRet (dC (.bool true))))
def f_are_within : Gf := fnSem 4 b_are_within
def b_done : DS := (dThen (dIfS (dNotT (dB (dCall 4 f_can_do (dACons (dV 0) (dACons (dV 1) (dACons (dV 2) (dACons (dV 3) dANil))))))) (dRaise "CannotDo" [] dNil) dSkip)
    (dThen (dAsg (gtT [4, 5]) (dV 1))
    (dThen (dAsg (gtT [6, 7, 8]) (dCall 3 f_step_at (dACons (dV 0) (dACons (dV 2) (dACons (dV 3) dANil)))))
    (dRet (dTup (dCons (dCall 3 f_exchanged (dACons (dV 4) (dACons (dV 2) (dACons (dV 8) dANil)))) (dCons (dCall 2 f_words_after (dACons (dV 5) (dACons (dV 7) dANil))) dNil)))))))
def f_done : Gf := fnSem 9 b_done
def b_steps_of : DS := (dRet (dCb gTupOf (dCons (dLc (dSeq (dCall 1 f_all_steps (dACons (dV 0) dANil))) (gtT [2, 3]) [2, 3] (dB (dCall 4 f_can_do (dACons (dV 0) (dACons (dV 1) (dACons (dV 2) (dACons (dV 3) dANil)))))) (dTup (dCons (dV 2) (dCons (dV 3) dNil)))) dNil)))
def f_steps_of : Gf := fnSem 4 b_steps_of
def b_law_one_of : DS := (dRet (dOp gIx (dV 1) (dCall 2 f_law_draw (dAPen 0 (dACons (dCb gLen (dCons (dV 1) dNil)) dANil)))))
def f_law_one_of : Gf := fnSem 2 b_law_one_of
def b_law_drawn_word : DS := (dRet (dCb gTupOf (dCons (dLc (dIt asR1 (dCons (dCall 2 f_law_draw (dAPen 0 (dACons (dOp gAdd (dV 2) (dC (.int 1))) dANil))) dNil)) (gtN 3) [3] dYes (dCall 2 f_law_draw (dAPen 0 (dACons (dV 1) dANil)))) dNil)))
def f_law_drawn_word : Gf := fnSem 4 b_law_drawn_word
def b_is_above : DS := (dThen (dAsg (gtT [2, 3]) (dV 0))
    (dThen (dAsg (gtT [4, 5]) (dV 1))
    (dRet (dAnd (dOp gEq (dV 2) (dV 4)) (dCall 2 f_are_within (dACons (dV 5) (dACons (dV 3) dANil)))))))
def f_is_above : Gf := fnSem 6 b_is_above
def b_law_drawn_step : DS := (dThen (dSet 4 (dCall 2 f_law_one_of (dAPen 0 (dACons (dC (.list [(.str "send"), (.str "send"), (.str "take"), (.str "take"), (.str "take"), (.str "rest"), (.str "test")])) dANil))))
    (dThen (dSet 5 (dTup (dCons (dV 4) (dCons (dCall 2 f_law_draw (dAPen 0 (dACons (dV 1) dANil))) (dCons (dCall 2 f_law_draw (dAPen 0 (dACons (dV 2) dANil))) dNil)))))
    (dThen (dIfS (dB (dOp gEq (dV 4) (dC (.str "test")))) (dSet 5 (dSl (dV 5) dNoP (dP (dC (.int 2))))) dSkip)
    (dRet (dTup (dCons (dCall 2 f_law_draw (dAPen 0 (dACons (dV 3) dANil))) (dCons (dIf (dB (dOp gNe (dV 4) (dC (.str "rest")))) (dV 5) (dTup (dCons (dC (.str "rest")) dNil))) (dCons (dCall 2 f_law_draw (dAPen 0 (dACons (dV 3) dANil))) dNil))))))))
def f_law_drawn_step : Gf := fnSem 6 b_law_drawn_step
def b_law_drawn_lot : DS := (dThen (dSet 3 (dCb gTupOf (dCons (dLc (dSeq (dOp gIx (dV 1) (dC (.int 2)))) (gtN 4) [4] dYes (dCall 2 f_law_draw (dAPen 0 (dACons (dOp gIx (dV 4) (dC (.int 0))) dANil)))) dNil)))
    (dRet (dTup (dCons (dV 3) (dCons (dCb gTupOf (dCons (dLc (dIt asR1 (dCons (dOp gIx (dV 1) (dC (.int 0))) dNil)) (gtN 5) [5] dYes (dCall 3 f_law_drawn_word (dAPen 0 (dACons (dOp gIx (dV 1) (dC (.int 1))) (dACons (dV 2) dANil))))) dNil)) dNil)))))
def f_law_drawn_lot : Gf := fnSem 6 b_law_drawn_lot
def b_law_less : DS := (dThen (dSet 2 (dTup dNil))
    (dThen (dFor (dSeq (dOp gIx (dV 1) (dC (.int 1)))) (gtN 3) (dThen (dSet 4 (dTup dNil))
    (dThen (dFor (dSeq (dLc (dSeq (dV 3)) (gtN 5) [5] (dB (dOp gGt (dCall 2 f_law_draw (dAPen 0 (dACons (dC (.int 4)) dANil))) (dC (.int 0)))) (dV 5))) (gtN 5) (dThen (dSet 6 (dCall 2 f_law_draw (dAPen 0 (dACons (dOp gAdd (dV 5) (dC (.int 1))) dANil))))
    (dSet 4 (dOp gAdd (dV 4) (dTup (dCons (dCall 2 f_law_one_of (dAPen 0 (dACons (dLst (dCons (dV 5) (dCons (dV 5) (dCons (dV 6) dNil)))) dANil))) dNil))))))
    (dSet 2 (dOp gAdd (dV 2) (dTup (dCons (dV 4) dNil)))))))
    (dRet (dTup (dCons (dOp gIx (dV 1) (dC (.int 0))) (dCons (dV 2) dNil))))))
def f_law_less : Gf := fnSem 7 b_law_less
def b_law_drawn_machine : DS := (dThen (dSet 5 (dLc (dIt asR1 (dCons (dCall 2 f_law_draw (dAPen 0 (dACons (dOp gAdd (dV 4) (dC (.int 1))) dANil))) dNil)) (gtN 6) [6] dYes (dCall 4 f_law_drawn_step (dAPen 0 (dACons (dV 1) (dACons (dV 2) (dACons (dV 3) dANil)))))))
    (dRet (dTup (dCons (dV 3) (dCons (dCb gTupOf (dCons (dSortSet (dV 5)) dNil)) dNil)))))
def f_law_drawn_machine : Gf := fnSem 7 b_law_drawn_machine
def b_law_drawn_program : DS := (dThen (dPar 2 3 (dCons (dCall 2 f_law_one_of (dAPen 0 (dACons (dLst (dCons (dC (.int 1)) (dCons (dC (.int 1)) (dCons (dC (.int 2)) (dCons (dC (.int 2)) (dCons (dC (.int 3)) dNil)))))) dANil))) (dCons (dCall 2 f_law_one_of (dAPen 0 (dACons (dLst (dCons (dC (.int 1)) (dCons (dC (.int 2)) (dCons (dC (.int 2)) (dCons (dC (.int 3)) dNil))))) dANil))) dNil)))
    (dThen (dSet 4 (dCall 2 f_law_one_of (dAPen 0 (dACons (dLst (dCons (dC (.int 1)) (dCons (dC (.int 1)) (dCons (dC (.int 2)) (dCons (dC (.int 2)) (dCons (dC (.int 3)) dNil)))))) dANil))))
    (dThen (dSet 5 (dTup dNil))
    (dThen (dFor (dIt asR1 (dCons (dV 4) dNil)) (gtN 6) (dThen (dSet 7 (dOp gAdd (dC (.int 1)) (dCall 2 f_law_draw (dAPen 0 (dACons (dCall 2 f_law_one_of (dAPen 0 (dACons (dIf (dB (dOp gLt (dV 4) (dC (.int 3)))) (dLst (dCons (dC (.int 3)) (dCons (dC (.int 3)) (dCons (dC (.int 5)) dNil)))) (dLst (dCons (dC (.int 2)) (dCons (dC (.int 2)) (dCons (dC (.int 2)) (dCons (dC (.int 5)) dNil)))))) dANil))) dANil)))))
    (dSet 5 (dOp gAdd (dV 5) (dTup (dCons (dCall 5 f_law_drawn_machine (dAPen 0 (dACons (dV 2) (dACons (dV 3) (dACons (dV 7) (dACons (dV 1) dANil)))))) dNil))))))
    (dRet (dTup (dCons (dV 2) (dCons (dV 3) (dCons (dV 5) dNil)))))))))
def f_law_drawn_program : Gf := fnSem 8 b_law_drawn_program
def b_law_wide_program : DS := (dThen (dAsg (gtT [2, 3, 4]) (dCall 2 f_law_drawn_program (dAPen 0 (dACons (dIf (dB (dOp gEq (dCall 2 f_law_draw (dAPen 0 (dACons (dC (.int 6)) dANil))) (dC (.int 5)))) (dC (.int 24)) (dV 1)) dANil))))
    (dRet (dTup (dCons (dV 2) (dCons (dV 3) (dCons (dCb gTupOf (dCons (dLc (dSeq (dV 4)) (gtT [5, 6]) [5, 6] dYes (dTup (dCons (dV 5) (dCons (dSl (dV 6) dNoP (dP (dC (.int 8)))) dNil)))) dNil)) dNil))))))
def f_law_wide_program : Gf := fnSem 7 b_law_wide_program
def b_can_end : DS := (dRet (dOr (dOp gNe (dOp gIx (dV 1) (dC (.int 0))) (dC (.str "test"))) (dOp gEq (dOp gIx (dV 0) (dOp gIx (dV 1) (dC (.int 1)))) (dTup dNil))))
def f_can_end : Gf := fnSem 2 b_can_end
def b_words_before : DS := (dThen (dIfS (dB (dOp gEq (dOp gIx (dV 1) (dC (.int 0))) (dC (.str "take")))) (dThen (dAsg (gtT [2, 3, 4]) (dV 1))
    (dRet (dCall 3 f_exchanged (dACons (dV 0) (dACons (dV 3) (dACons (dOp gAdd (dTup (dCons (dV 4) dNil)) (dOp gIx (dV 0) (dV 3))) dANil)))))) dSkip)
    (dThen (dIfS (dB (dOp gEq (dOp gIx (dV 1) (dC (.int 0))) (dC (.str "send")))) (dThen (dAsg (gtT [2, 3, 4]) (dV 1))
    (dThen (dSet 5 (dOp gIx (dV 0) (dV 3)))
    (dIfS (dAndT (dB (dOp gGt (dCb gLen (dCons (dV 5) dNil)) (dC (.int 0)))) (dB (dOp gLe (dOp gIx (dV 5) (dNeg (dC (.int 1)))) (dV 4)))) (dRet (dCall 3 f_exchanged (dACons (dV 0) (dACons (dV 3) (dACons (dSl (dV 5) dNoP (dP (dNeg (dC (.int 1))))) dANil))))) dSkip))) dSkip)
    (dRet (dV 0))))
def f_words_before : Gf := fnSem 6 b_words_before
def b_law_lot_back : DS := (dThen (dAsg (gtT [4, 5, 6]) (dOp gIx (dOp gIx (dOp gIx (dOp gIx (dV 0) (dC (.int 2))) (dV 2)) (dC (.int 1))) (dV 3)))
    (dThen (dNewLs 7 (dCons (dOp gIx (dV 1) (dC (.int 1))) dNil))
    (dThen (dIfS (dOrT (dB (dOp gNe (dOp gIx (dOp gIx (dV 1) (dC (.int 0))) (dV 2)) (dV 6))) (dAndT (dB (dOp gEq (dOp gIx (dV 5) (dC (.int 0))) (dC (.str "test")))) (dB (dOp gNe (dIxO 7 (dOp gIx (dV 5) (dC (.int 1)))) (dTup dNil))))) (dRet (dLst dNil)) dSkip)
    (dThen (dIfS (dB (dOp gEq (dOp gIx (dV 5) (dC (.int 0))) (dC (.str "take")))) (dIxSet 7 (dOp gAdd (dTup (dCons (dOp gIx (dV 5) (dC (.int 2))) dNil)) (dIxO 7 (dOp gIx (dV 5) (dC (.int 1))))) (dOp gIx (dV 5) (dC (.int 1)))) dSkip)
    (dThen (dIfS (dAndT (dB (dOp gEq (dOp gIx (dV 5) (dC (.int 0))) (dC (.str "send")))) (dAndT (dB (dOp gNe (dIxO 7 (dOp gIx (dV 5) (dC (.int 1)))) (dTup dNil))) (dB (dOp gLe (dOp gIx (dIxO 7 (dOp gIx (dV 5) (dC (.int 1)))) (dNeg (dC (.int 1)))) (dOp gIx (dV 5) (dC (.int 2))))))) (dIxSet 7 (dSl (dIxO 7 (dOp gIx (dV 5) (dC (.int 1)))) dNoP (dP (dNeg (dC (.int 1))))) (dOp gIx (dV 5) (dC (.int 1)))) dSkip)
    (dFrz 7 (dRet (dLst (dCons (dTup (dCons (dCall 3 f_law_at (dACons (dOp gIx (dV 1) (dC (.int 0))) (dACons (dV 2) (dACons (dV 4) dANil)))) (dCons (dCb gTupOf (dCons (dV 7) dNil)) dNil))) dNil)))))))))
def f_law_lot_back : Gf := fnSem 8 b_law_lot_back
def b_back : DS := (dThen (dAsg (gtT [4, 5]) (dV 1))
    (dThen (dAsg (gtT [6, 7, 8]) (dCall 3 f_step_at (dACons (dV 0) (dACons (dV 2) (dACons (dV 3) dANil)))))
    (dThen (dIfS (dOrT (dB (dOp gNe (dOp gIx (dV 4) (dV 2)) (dV 8))) (dNotT (dB (dCall 2 f_can_end (dACons (dV 5) (dACons (dV 7) dANil)))))) (dRet (dC .none)) dSkip)
    (dRet (dTup (dCons (dCall 3 f_exchanged (dACons (dV 4) (dACons (dV 2) (dACons (dV 6) dANil)))) (dCons (dCall 2 f_words_before (dACons (dV 5) (dACons (dV 7) dANil))) dNil)))))))
def f_back : Gf := fnSem 9 b_back
def b_all_back : DS := (dThen (dSet 2 (dLc (dSeq (dCall 1 f_all_steps (dACons (dV 0) dANil))) (gtT [3, 4]) [3, 4] dYes (dCall 4 f_back (dACons (dV 0) (dACons (dV 1) (dACons (dV 3) (dACons (dV 4) dANil)))))))
    (dRet (dCb gTupOf (dCons (dSortSc (dSeq (dV 2)) (gtN 5) [5] (dB (dNotN (dV 5))) (dV 5)) dNil))))
def f_all_back : Gf := fnSem 6 b_all_back
def b_is_integer_in : DS := (dRet (dAnd (dIsi "int" (dV 0)) (dAnd (dNot (dIsi "bool" (dV 0))) (dChain (fun i j => decide (i ≤ j)) (fun i j => decide (i ≤ j)) (dV 1) (dV 0) (dV 2)))))
def f_is_integer_in : Gf := fnSem 3 b_is_integer_in
def b_is_tuple_of : DS := (dRet (dAnd (dIsi "tuple" (dV 0)) (dChain (fun i j => decide (i ≤ j)) (fun i j => decide (i ≤ j)) (dV 1) (dCb gLen (dCons (dV 0) dNil)) (dV 2))))
def f_is_tuple_of : Gf := fnSem 3 b_is_tuple_of
def b_first_lot : DS := (dThen (dAsg (gtT [1, 2, 3]) (dV 0))
    (dRet (dTup (dCons (dOp gMul (dTup (dCons (dC (.int 0)) dNil)) (dCb gLen (dCons (dV 3) dNil))) (dCons (dOp gMul (dTup (dCons (dTup dNil) dNil)) (dV 1)) dNil)))))
def f_first_lot : Gf := fnSem 4 b_first_lot
def b_law_whole : DS := (dRet (dAnd (dIsi "int" (dV 0)) (dAnd (dNot (dIsi "bool" (dV 0))) (dChain (fun i j => decide (i ≤ j)) (fun i j => decide (i ≤ j)) (dV 1) (dV 0) (dV 2)))))
def f_law_whole : Gf := fnSem 3 b_law_whole
def b_law_first : DS := (dRet (dTup (dCons (dOp gMul (dTup (dCons (dC (.int 0)) dNil)) (dCb gLen (dCons (dOp gIx (dV 0) (dC (.int 2))) dNil))) (dCons (dOp gMul (dTup (dCons (dTup dNil) dNil)) (dOp gIx (dV 0) (dC (.int 0)))) dNil))))
def f_law_first : Gf := fnSem 1 b_law_first
def b_is_index : DS := (dRet (dCall 3 f_is_integer_in (dACons (dV 0) (dACons (dC (.int 0)) (dACons (dOp gSub (dV 1) (dC (.int 1))) dANil)))))
def f_is_index : Gf := fnSem 2 b_is_index
def b_is_word : DS := (dRet (dAnd (dCall 3 f_is_tuple_of (dACons (dV 0) (dACons (dC (.int 0)) (dACons (dC (.int 60)) dANil)))) (dCb gAll (dCons (dLc (dSeq (dV 0)) (gtN 2) [2] dYes (dCall 2 f_is_index (dACons (dV 2) (dACons (dV 1) dANil)))) dNil))))
def f_is_word : Gf := fnSem 3 b_is_word
def b_are_places : DS := (dThen (dIfS (dNotT (dB (dCall 3 f_is_tuple_of (dACons (dV 0) (dACons (dCb gLen (dCons (dV 1) dNil)) (dACons (dCb gLen (dCons (dV 1) dNil)) dANil)))))) (dRet (dC (.bool false))) dSkip)
    (dRet (dCb gAll (dCons (dLc (dIt asZip (dCons (dV 0) (dCons (dV 1) dNil))) (gtT [2, 3]) [2, 3] dYes (dCall 2 f_is_index (dACons (dV 2) (dACons (dOp gIx (dV 3) (dC (.int 0))) dANil)))) dNil))))
def f_are_places : Gf := fnSem 4 b_are_places
def b_are_words : DS := (dRet (dAnd (dCall 3 f_is_tuple_of (dACons (dV 0) (dACons (dV 1) (dACons (dV 1) dANil)))) (dCb gAll (dCons (dLc (dSeq (dV 0)) (gtN 3) [3] dYes (dCall 2 f_is_word (dACons (dV 3) (dACons (dV 2) dANil)))) dNil))))
def f_are_words : Gf := fnSem 4 b_are_words
def b_is_lot : DS := (dThen (dIfS (dNotT (dB (dCall 3 f_is_tuple_of (dACons (dV 1) (dACons (dC (.int 2)) (dACons (dC (.int 2)) dANil)))))) (dRet (dC (.bool false))) dSkip)
    (dThen (dAsg (gtT [2, 3, 4]) (dV 0))
    (dThen (dAsg (gtT [5, 6]) (dV 1))
    (dRet (dAnd (dCall 2 f_are_places (dACons (dV 5) (dACons (dV 4) dANil))) (dCall 3 f_are_words (dACons (dV 6) (dACons (dV 2) (dACons (dV 3) dANil)))))))))
def f_is_lot : Gf := fnSem 7 b_is_lot
def b_law_drawn_situation : DS := (dThen (dSet 2 (dLc (dIt asR1 (dCons (dOp gAdd (dC (.int 1)) (dCall 2 f_law_draw (dAPen 0 (dACons (dC (.int 3)) dANil)))) dNil)) (gtN 3) [3] dYes (dCall 3 f_law_drawn_lot (dAPen 0 (dACons (dV 1) (dACons (dCall 2 f_law_one_of (dAPen 0 (dACons (dLst (dCons (dC (.int 0)) (dCons (dC (.int 1)) (dCons (dC (.int 1)) (dCons (dC (.int 2)) dNil))))) dANil))) dANil))))))
    (dRet (dCb gTupOf (dCons (dSortSet (dV 2)) dNil))))
def f_law_drawn_situation : Gf := fnSem 4 b_law_drawn_situation
def b_law_is_among : DS := (dRet (dOp gNe (dLc (dSeq (dV 1)) (gtN 2) [2] (dB (dCall 2 f_law_stands_above (dACons (dV 0) (dACons (dV 2) dANil)))) (dC (.int 1))) (dLst dNil)))
def f_law_is_among : Gf := fnSem 3 b_law_is_among
def b_lot_after : DS := (dThen (dAsg (gtT [3, 4, 5]) (dV 2))
    (dThen (dAsg (gtT [6, 7]) (dV 1))
    (dThen (dIfS (dNotT (dB (dCall 2 f_are_within (dACons (dV 3) (dACons (dV 7) dANil))))) (dRaise "CannotDo" [] dNil) dSkip)
    (dRet (dCall 4 f_done (dACons (dV 0) (dACons (dTup (dCons (dV 6) (dCons (dV 3) dNil))) (dACons (dV 4) (dACons (dV 5) dANil)))))))))
def f_lot_after : Gf := fnSem 8 b_lot_after
def b_is_above_one : DS := (dThen (dFor (dSeq (dV 1)) (gtN 2) (dIfS (dB (dCall 2 f_is_above (dACons (dV 0) (dACons (dV 2) dANil)))) (dRet (dC (.bool true))) dSkip))
    (dRet (dC (.bool false))))
def f_is_above_one : Gf := fnSem 3 b_is_above_one
def b_law_drawn_run : DS := (dThen (dPar 4 5 (dCons (dTup dNil) (dCons (dTup (dCons (dV 2) dNil)) dNil)))
    (dThen (dFor (dIt asR1 (dCons (dCall 2 f_law_draw (dAPen 0 (dACons (dOp gAdd (dV 3) (dC (.int 1))) dANil))) dNil)) (gtN 6) (dThen (dSet 7 (dIf (dB (dOp gEq (dCall 2 f_law_draw (dAPen 0 (dACons (dC (.int 3)) dANil))) (dC (.int 0)))) (dCall 2 f_law_less (dAPen 0 (dACons (dOp gIx (dV 5) (dNeg (dC (.int 1)))) dANil))) (dOp gIx (dV 5) (dNeg (dC (.int 1))))))
    (dThen (dSet 8 (dLc (dSeq (dCall 1 f_law_all_pairs (dACons (dV 1) dANil))) (gtN 11) [11] (dB (dOp gNe (dCall 4 f_law_after (dACons (dV 1) (dACons (dV 7) (dACons (dOp gIx (dV 11) (dC (.int 0))) (dACons (dOp gIx (dV 11) (dC (.int 1))) dANil))))) (dLst dNil))) (dV 11)))
    (dThen (dIfS (dB (dOp gEq (dV 8) (dLst dNil))) (dRet (dTup (dCons (dV 4) (dCons (dV 5) dNil)))) dSkip)
    (dThen (dAsg (gtT [9, 10]) (dCall 2 f_law_one_of (dAPen 0 (dACons (dV 8) dANil))))
    (dThen (dSet 4 (dOp gAdd (dV 4) (dTup (dCons (dTup (dCons (dOp gIx (dV 7) (dC (.int 1))) (dCons (dV 9) (dCons (dV 10) dNil)))) dNil))))
    (dSet 5 (dOp gAdd (dV 5) (dTup (dCons (dOp gIx (dCall 4 f_law_after (dACons (dV 1) (dACons (dV 7) (dACons (dV 9) (dACons (dV 10) dANil))))) (dC (.int 0))) dNil))))))))))
    (dRet (dTup (dCons (dV 4) (dCons (dV 5) dNil))))))
def f_law_drawn_run : Gf := fnSem 12 b_law_drawn_run
def b_is_in : DS := (dRet (dCall 2 f_is_above_one (dACons (dV 0) (dACons (dV 1) dANil))))
def f_is_in : Gf := fnSem 2 b_is_in
end Rf

set_option maxRecDepth 100000
set_option maxHeartbeats 4000000
namespace Rf
open PySem PySem.Spec PyProof.Rows L2 Gd Dt Dl Ee Sd
/-! ### drawing -/
theorem y_pen0 {fm : Fm} {i : Nat} {ns : List Int} (e : fm[i]? = some (.pen ns)) : Y (dPenIx i 0 fm) (· = .list (ns.map .int)) := fun s => ⟨_, s, by simp only [dPenIx, e, slP, Mo.of, Mo.bind, penGet], rfl⟩
theorem y_pen1 {fm : Fm} {i : Nat} {ns : List Int} (e : fm[i]? = some (.pen ns)) : Y (dPenIx i 1 fm) fun d => ∃ n, d = .int n := fun s => ⟨.int s.1, s, by simp only [dPenIx, e, slP, Mo.of, Mo.bind, penGet], _, rfl⟩
theorem y_pen2 {fm : Fm} {i : Nat} {ns : List Int} (e : fm[i]? = some (.pen ns)) : Y (dPenIx i 2 fm) fun d => ∃ n, d = .int n := fun s => ⟨.int s.2, s, by simp only [dPenIx, e, slP, Mo.of, Mo.bind, penGet], _, rfl⟩
theorem y_set1 {fm : Fm} {i : Nat} {ns : List Int} {d : DE} (e : fm[i]? = some (.pen ns)) (h : Y (d fm) fun d => ∃ n, d = .int n) : Y (dPenSet i 1 d fm) (· = .nx fm) := Y.bind h fun x p s => by
  obtain ⟨n, rfl⟩ := p
  exact ⟨_, (n, s.2), by simp only [e, slP, Mo.of, Mo.bind, penSet], rfl⟩
theorem y_set2 {fm : Fm} {i : Nat} {ns : List Int} {d : DE} (e : fm[i]? = some (.pen ns)) (h : Y (d fm) fun d => ∃ n, d = .int n) : Y (dPenSet i 2 d fm) (· = .nx fm) := Y.bind h fun x p s => by
  obtain ⟨n, rfl⟩ := p
  exact ⟨_, (s.1, n), by simp only [e, slP, Mo.of, Mo.bind, penSet], rfl⟩
theorem cmul_l {i j : Int} (h : -(2 ^ 64) < i ∧ i < 2 ^ 64) : gMul (.int i) (.int j) = some (.int (i * j)) := if_pos (.inl h)
theorem cmul_r {i j : Int} (h : -(2 ^ 64) < j ∧ j < 2 ^ 64) : gMul (.int i) (.int j) = some (.int (i * j)) := if_pos (.inr h)
theorem gmod_ok {i j : Int} (h : 0 < j) : gMod (.int i) (.int j) = some (.int (i % j)) := if_pos h
theorem gdiv_ok {i j : Int} (h : 0 < j) (h2 : j < 2 ^ 64) : gDiv (.int i) (.int j) = some (.int (i / j)) := if_pos ⟨h, by
  have e : j.natAbs < 2 ^ 64 := by omega
  have : j.natAbs.log2 < 64 := by
    by_cases z : j.natAbs = 0
    · rw [z]; decide
    · exact (Nat.log2_lt z).2 e
  omega⟩
theorem ints_sh (zs : List Int) : SeqAt.shaped (.list (zs.map .int)) = true := by
  have : ∀ zs : List Int, PyData.canLayAll0 (zs.map .int) = true ∧ PyData.depthAll (zs.map .int) = 0 := fun zs => by
    induction zs with
    | nil => exact ⟨rfl, rfl⟩
    | cons z zs ih => exact ⟨by simp only [List.map_cons, PyData.canLayAll0, PyData.canLay0, ih.1, Bool.and_self], by simp only [List.map_cons, PyData.depthAll, PyData.depth, ih.2, Nat.max_self]⟩
  unfold SeqAt.shaped
  rw [Bool.and_eq_true]
  exact ⟨(this zs).1, decide_eq_true (by simp only [PyData.depth, (this zs).2]; decide)⟩
theorem gNe_ints (zs : List Int) : gNe (.list (zs.map .int)) (.list []) = some (.bool (!zs.isEmpty)) := by
  show (if SeqAt.shaped (.list (zs.map .int)) = true ∧ SeqAt.shaped (.list []) = true then some (PyData.bool (!PyData.eqv (.list (zs.map .int)) (.list []))) else none) = _
  rw [if_pos ⟨ints_sh zs, rfl⟩, eqv_nilL]
  cases zs <;> rfl
theorem fresh_cell (ns : List Int) (n : Int) (h : ns.isEmpty = false) : ∃ r z, gMod (.int n) (.int (ns.length : Nat)) = some (.int r) ∧ atI (ns.map PyData.int) r = some (.int z) := by
  have hl : (0 : Int) < (ns.length : Nat) := by
    cases ns with
    | nil => cases h
    | cons a b => simp only [List.length_cons]; omega
  have g1 := Int.emod_nonneg n (Int.ne_of_gt hl)
  have g2 := Int.emod_lt_of_pos n hl
  obtain ⟨x, ex, mx⟩ := atI_mem (xs := ns.map .int) (i := n % (ns.length : Nat)) g1 (by rw [List.length_map]; exact g2)
  obtain ⟨z, _, rfl⟩ := List.mem_map.mp mx
  exact ⟨_, z, gmod_ok hl, ex⟩
def b_lap : DS := (dThen (dSet 5 (dOp gMod (dCb gInt (dCons (dOp gAdd (dOp gAdd (dOp gMul (dV 5) (dV 5)) (dOp gMul (dOp gMul (dC (.int 70139)) (dOp gAdd (dV 7) (dC (.int 5)))) (dOp gAdd (dV 1) (dC (.int 1))))) (dV 3)) dNil)) (dV 4)))
    (dSet 6 (dOp gAdd (dOp gMul (dV 6) (dV 4)) (dV 5))))
theorem lap_eq (P z n u v i w : Int) (a b : Sl) (e1 : gMul (.int u) (.int u) = some (.int (u * u))) (e2 : gMul (.int 70139) (.int (i + 5)) = some (.int w)) (e3 : gMul (.int w) (.int (n + 1)) = some (.int (w * (n + 1)))) (e4 : ∀ j, gMod (.int j) (.int P) = some (.int (j % P))) (e5 : gMul (.int v) (.int P) = some (.int (v * P))) :
    b_lap [a, .d (.int n), b, .d (.int z), .d (.int P), .d (.int u), .d (.int v), .d (.int i)] = Mo.pure (.nx [a, .d (.int n), b, .d (.int z), .d (.int P), .d (.int ((u * u + w * (n + 1) + z) % P)), .d (.int (v * P + (u * u + w * (n + 1) + z) % P)), .d (.int i)]) := by
  simp only [Mo.bind_assoc, Mo.pure_bind, Mo.of_some, Mo.bad_bind, Mo.raise_bind, Mo.nox_pure, Mo.nox_bind, Mo.nox_nox, Mo.nox_bad, initF, argSl, List.map_cons, List.map_nil, List.length_cons, List.length_nil, Nat.reduceSub, Nat.reduceAdd, List.replicate_succ, List.replicate_zero, List.cons_append, List.nil_append, List.append_nil, List.getElem?_cons_zero, List.getElem?_cons_succ, List.set_cons_zero, List.set_cons_succ, slD, slP, slO, dThen, dSkip, dSet, dPar, dRet, dIfS, dV, dC, dNil, dCons, dTup, dLst, dAnd, dOr, dNot, dIf, dAndT, dOrT, dNotT, dB, asB, dOp, dCb, dIsi, dCall, dACons, dANil, dAPen, dSl, dP, dNoP, asI, dAsg, gtN, gtT, gtNs, dSeq, asSeq, dIt, dYes, dRev, dNeg, gNeg, if_true, if_false, reduceIte, reduceCtorEq, few_ok, Nat.reduceLeDiff, Nat.zero_le, b_lap, gInt, gAdd, e1, e2, e3, e4, e5]
theorem fresh_ok (ns : List Int) : Y (f_law_fresh [.pen ns]) fun d => ∃ n, d = .int n := by
  refine Y.fn ?_
  unfold b_law_fresh
  have p0 : ∀ {a : Sl} {b : Fm}, (Sl.pen ns :: b)[0]? = some (.pen ns) := rfl
  refine Y.then (φ := fun f => ∃ n, f = [.pen ns, .d (.int n), .d (.list (ns.map .int)), .no, .no, .no, .no, .no]) ?_ fun f hf => ?_
  · unfold dPar dCons dNil
    rw [Mo.bind_assoc]
    refine Y.bind (y_pen1 (ns := ns) rfl) fun x p => ?_
    obtain ⟨n, rfl⟩ := p
    rw [Mo.bind_assoc, Mo.bind_assoc]
    refine Y.bind (y_pen0 (ns := ns) rfl) fun x p => ?_
    subst p
    exact .pure ⟨_, rfl, n, rfl⟩
  obtain ⟨n, rfl⟩ := hf
  refine Y.then (φ := fun f => f = [.pen ns, .d (.int n), .d (.list (ns.map .int)), .no, .no, .no, .no, .no]) ?_ fun f hf => ?_
  · refine (y_set1 (ns := ns) rfl (.eq (x := .int (n + 1)) ?_ ⟨_, rfl⟩)).imp fun o p => ⟨_, p, rfl⟩
    rfl
  subst hf
  refine Y.then (φ := fun f => ∃ z, f = [.pen ns, .d (.int n), .d (.list (ns.map .int)), .d (.int z), .no, .no, .no, .no]) ?_ fun f hf => ?_
  · cases h : ns.isEmpty with
    | true =>
      refine .eq (x := .nx [.pen ns, .d (.int n), .d (.list (ns.map .int)), .d (.int 0), .no, .no, .no, .no]) ?_ ⟨_, rfl, 0, rfl⟩
      simp only [Mo.bind_assoc, Mo.pure_bind, Mo.of_some, Mo.bad_bind, Mo.raise_bind, Mo.nox_pure, Mo.nox_bind, Mo.nox_nox, Mo.nox_bad, initF, argSl, List.map_cons, List.map_nil, List.length_cons, List.length_nil, Nat.reduceSub, Nat.reduceAdd, List.replicate_succ, List.replicate_zero, List.cons_append, List.nil_append, List.append_nil, List.getElem?_cons_zero, List.getElem?_cons_succ, List.set_cons_zero, List.set_cons_succ, slD, slP, slO, dThen, dSkip, dSet, dPar, dRet, dIfS, dV, dC, dNil, dCons, dTup, dLst, dAnd, dOr, dNot, dIf, dAndT, dOrT, dNotT, dB, asB, dOp, dCb, dIsi, dCall, dACons, dANil, dAPen, dSl, dP, dNoP, asI, dAsg, gtN, gtT, gtNs, dSeq, asSeq, dIt, dYes, dRev, dNeg, gNeg, if_true, if_false, reduceIte, reduceCtorEq, few_ok, Nat.reduceLeDiff, Nat.zero_le, gNe_ints, h, Bool.not_true]
    | false =>
      obtain ⟨r, z, e1, e2⟩ := fresh_cell ns n h
      refine .eq (x := .nx [.pen ns, .d (.int n), .d (.list (ns.map .int)), .d (.int z), .no, .no, .no, .no]) ?_ ⟨_, rfl, z, rfl⟩
      simp only [Mo.bind_assoc, Mo.pure_bind, Mo.of_some, Mo.bad_bind, Mo.raise_bind, Mo.nox_pure, Mo.nox_bind, Mo.nox_nox, Mo.nox_bad, initF, argSl, List.map_cons, List.map_nil, List.length_cons, List.length_nil, Nat.reduceSub, Nat.reduceAdd, List.replicate_succ, List.replicate_zero, List.cons_append, List.nil_append, List.append_nil, List.getElem?_cons_zero, List.getElem?_cons_succ, List.set_cons_zero, List.set_cons_succ, slD, slP, slO, dThen, dSkip, dSet, dPar, dRet, dIfS, dV, dC, dNil, dCons, dTup, dLst, dAnd, dOr, dNot, dIf, dAndT, dOrT, dNotT, dB, asB, dOp, dCb, dIsi, dCall, dACons, dANil, dAPen, dSl, dP, dNoP, asI, dAsg, gtN, gtT, gtNs, dSeq, asSeq, dIt, dYes, dRev, dNeg, gNeg, if_true, if_false, reduceIte, reduceCtorEq, few_ok, Nat.reduceLeDiff, Nat.zero_le, gNe_ints, h, Bool.not_false, gInt, gLen, List.length_map, gIx, e1, e2]
  obtain ⟨z, rfl⟩ := hf
  refine Y.bind (φ := fun o => o = .nx [.pen ns, .d (.int n), .d (.list (ns.map .int)), .d (.int z), .no, .no, .no, .no] ∨ ∃ q, o = .rt (.int q)) ?_ fun o ho => ?_
  · have hp : gPow (.int 10) (.int 18) = some (.int (10 ^ 18)) := rfl
    cases h1 : decide (n < (ns.length : Nat)) with
    | false => refine .eq (x := .nx _) ?_ (.inl rfl); simp only [Mo.bind_assoc, Mo.pure_bind, Mo.of_some, Mo.bad_bind, Mo.raise_bind, Mo.nox_pure, Mo.nox_bind, Mo.nox_nox, Mo.nox_bad, initF, argSl, List.map_cons, List.map_nil, List.length_cons, List.length_nil, Nat.reduceSub, Nat.reduceAdd, List.replicate_succ, List.replicate_zero, List.cons_append, List.nil_append, List.append_nil, List.getElem?_cons_zero, List.getElem?_cons_succ, List.set_cons_zero, List.set_cons_succ, slD, slP, slO, dThen, dSkip, dSet, dPar, dRet, dIfS, dV, dC, dNil, dCons, dTup, dLst, dAnd, dOr, dNot, dIf, dAndT, dOrT, dNotT, dB, asB, dOp, dCb, dIsi, dCall, dACons, dANil, dAPen, dSl, dP, dNoP, asI, dAsg, gtN, gtT, gtNs, dSeq, asSeq, dIt, dYes, dRev, dNeg, gNeg, if_true, if_false, reduceIte, reduceCtorEq, few_ok, Nat.reduceLeDiff, Nat.zero_le, gLen, List.length_map, gLt, h1]
    | true =>
      cases h2 : decide ((10 : Int) ^ 18 ≤ z) with
      | false => refine .eq (x := .nx _) ?_ (.inl rfl); simp only [Mo.bind_assoc, Mo.pure_bind, Mo.of_some, Mo.bad_bind, Mo.raise_bind, Mo.nox_pure, Mo.nox_bind, Mo.nox_nox, Mo.nox_bad, initF, argSl, List.map_cons, List.map_nil, List.length_cons, List.length_nil, Nat.reduceSub, Nat.reduceAdd, List.replicate_succ, List.replicate_zero, List.cons_append, List.nil_append, List.append_nil, List.getElem?_cons_zero, List.getElem?_cons_succ, List.set_cons_zero, List.set_cons_succ, slD, slP, slO, dThen, dSkip, dSet, dPar, dRet, dIfS, dV, dC, dNil, dCons, dTup, dLst, dAnd, dOr, dNot, dIf, dAndT, dOrT, dNotT, dB, asB, dOp, dCb, dIsi, dCall, dACons, dANil, dAPen, dSl, dP, dNoP, asI, dAsg, gtN, gtT, gtNs, dSeq, asSeq, dIt, dYes, dRev, dNeg, gNeg, if_true, if_false, reduceIte, reduceCtorEq, few_ok, Nat.reduceLeDiff, Nat.zero_le, gLen, List.length_map, gLt, h1, hp, gGe, h2]
      | true => refine .eq (x := .rt (.int (z - 10 ^ 18))) ?_ (.inr ⟨_, rfl⟩); simp only [Mo.bind_assoc, Mo.pure_bind, Mo.of_some, Mo.bad_bind, Mo.raise_bind, Mo.nox_pure, Mo.nox_bind, Mo.nox_nox, Mo.nox_bad, initF, argSl, List.map_cons, List.map_nil, List.length_cons, List.length_nil, Nat.reduceSub, Nat.reduceAdd, List.replicate_succ, List.replicate_zero, List.cons_append, List.nil_append, List.append_nil, List.getElem?_cons_zero, List.getElem?_cons_succ, List.set_cons_zero, List.set_cons_succ, slD, slP, slO, dThen, dSkip, dSet, dPar, dRet, dIfS, dV, dC, dNil, dCons, dTup, dLst, dAnd, dOr, dNot, dIf, dAndT, dOrT, dNotT, dB, asB, dOp, dCb, dIsi, dCall, dACons, dANil, dAPen, dSl, dP, dNoP, asI, dAsg, gtN, gtT, gtNs, dSeq, asSeq, dIt, dYes, dRev, dNeg, gNeg, if_true, if_false, reduceIte, reduceCtorEq, few_ok, Nat.reduceLeDiff, Nat.zero_le, gLen, List.length_map, gLt, h1, hp, gGe, h2, gSub]
  rcases ho with rfl | ⟨q, rfl⟩
  case inr => exact .pure ⟨_, rfl, q, rfl⟩
  refine Y.then (φ := fun f => f = [.pen ns, .d (.int n), .d (.list (ns.map .int)), .d (.int z), .d (.int 2305843009213693951), .no, .no, .no]) (.pure ⟨_, rfl, rfl⟩) fun f hf => ?_
  subst hf
  have hM : ∀ j : Int, gMod (.int j) (.int 2305843009213693951) = some (.int (j % 2305843009213693951)) := fun j => gmod_ok (by decide)
  refine Y.then (φ := fun f => ∃ u, 0 ≤ u ∧ u < 2305843009213693951 ∧ f = [.pen ns, .d (.int n), .d (.list (ns.map .int)), .d (.int z), .d (.int 2305843009213693951), .d (.int u), .no, .no]) ?_ fun f hf => ?_
  · refine .eq (x := .nx _) ?_ ⟨_, rfl, (z * 48271 + 60013 * n + 31) % 2305843009213693951, Int.emod_nonneg _ (by decide), Int.emod_lt_of_pos _ (by decide), rfl⟩
    simp only [Mo.bind_assoc, Mo.pure_bind, Mo.of_some, Mo.bad_bind, Mo.raise_bind, Mo.nox_pure, Mo.nox_bind, Mo.nox_nox, Mo.nox_bad, initF, argSl, List.map_cons, List.map_nil, List.length_cons, List.length_nil, Nat.reduceSub, Nat.reduceAdd, List.replicate_succ, List.replicate_zero, List.cons_append, List.nil_append, List.append_nil, List.getElem?_cons_zero, List.getElem?_cons_succ, List.set_cons_zero, List.set_cons_succ, slD, slP, slO, dThen, dSkip, dSet, dPar, dRet, dIfS, dV, dC, dNil, dCons, dTup, dLst, dAnd, dOr, dNot, dIf, dAndT, dOrT, dNotT, dB, asB, dOp, dCb, dIsi, dCall, dACons, dANil, dAPen, dSl, dP, dNoP, asI, dAsg, gtN, gtT, gtNs, dSeq, asSeq, dIt, dYes, dRev, dNeg, gNeg, if_true, if_false, reduceIte, reduceCtorEq, few_ok, Nat.reduceLeDiff, Nat.zero_le, cmul_r (i := z) (j := 48271) (by decide), cmul_l (i := 60013) (j := n) (by decide), gAdd, gInt, hM]
  obtain ⟨u, u0, u1, rfl⟩ := hf
  refine Y.then (φ := fun f => f = [.pen ns, .d (.int n), .d (.list (ns.map .int)), .d (.int z), .d (.int 2305843009213693951), .d (.int u), .d (.int u), .no]) (.pure ⟨_, rfl, rfl⟩) fun f hf => ?_
  subst hf
  refine Y.then (φ := fun f => ∃ u v l, f = [.pen ns, .d (.int n), .d (.list (ns.map .int)), .d (.int z), .d (.int 2305843009213693951), .d (.int u), .d (.int v), l]) ?_ fun f hf => ?_
  · refine Y.bind (φ := (· = upto 0 6)) (.eq (x := upto 0 6) rfl rfl) fun xs e => ?_
    subst e
    refine Y.for (I := fun _ f => ∃ u v l, 0 ≤ u ∧ u < 2305843009213693951 ∧ f = [.pen ns, .d (.int n), .d (.list (ns.map .int)), .d (.int z), .d (.int 2305843009213693951), .d (.int u), .d (.int v), l]) _ 0 _ ⟨u, u, _, u0, u1, rfl⟩ (fun i x f hx hf => ?_) fun f hf => ?_
    · obtain ⟨u, v, l, u0, u1, rfl⟩ := hf
      obtain ⟨hi, rfl⟩ := upto_get hx
      have k1 : -(2 ^ 64) < 70139 * (0 + (i : Int) + 5) ∧ 70139 * (0 + (i : Int) + 5) < 2 ^ 64 := by omega
      have k2 : -(2 ^ 64) < u ∧ u < 2 ^ 64 := by omega
      exact ⟨_, rfl, .eq (lap_eq _ z n u v _ _ _ _ (cmul_l k2) (cmul_l (by decide)) (cmul_l k1) hM (cmul_r (by decide))) ⟨_, .inl rfl, _, _, _, Int.emod_nonneg _ (by decide), Int.emod_lt_of_pos _ (by decide), rfl⟩⟩
    · obtain ⟨u, v, l, _, _, rfl⟩ := hf
      exact ⟨_, rfl, u, v, l, rfl⟩
  obtain ⟨u, v, l, rfl⟩ := hf
  exact .pure ⟨_, rfl, v, rfl⟩
theorem draw_ok (ns : List Int) {b : Int} (h0 : 0 < b) (h1 : b < 2 ^ 64) : Y (f_law_draw [.pen ns, .d (.int b)]) fun d => ∃ z, d = .int z ∧ 0 ≤ z ∧ z < b := by
  refine Y.fn ?_
  unfold b_law_draw
  refine Y.then (φ := fun f => f = [.pen ns, .d (.int b), .no]) ?_ fun f hf => ?_
  · refine Y.bind (φ := fun _ => True) ?_ fun t _ => ?_
    · unfold dB dOp
      rw [Mo.bind_assoc]
      refine Y.bind (y_pen2 (ns := ns) rfl) fun x p => ?_
      obtain ⟨n, rfl⟩ := p
      exact .pure trivial
    · cases t with
      | false => exact .pure ⟨_, rfl, rfl⟩
      | true =>
        refine (y_set2 (ns := ns) rfl ?_).imp fun o p => ⟨_, p, rfl⟩
        exact fresh_ok ns
  subst hf
  refine Y.then (φ := fun f => ∃ z, 0 ≤ z ∧ z < b ∧ f = [.pen ns, .d (.int b), .d (.int z)]) ?_ fun f hf => ?_
  · unfold dSet dOp dCb dCons
    simp only [Mo.bind_assoc]
    refine Y.bind (y_pen2 (ns := ns) rfl) fun x p => ?_
    obtain ⟨n, rfl⟩ := p
    refine .eq (x := .nx _) ?_ ⟨_, rfl, n % b, Int.emod_nonneg _ (Int.ne_of_gt h0), Int.emod_lt_of_pos _ h0, rfl⟩
    simp only [Mo.bind_assoc, Mo.pure_bind, Mo.of_some, Mo.bad_bind, Mo.raise_bind, Mo.nox_pure, Mo.nox_bind, Mo.nox_nox, Mo.nox_bad, initF, argSl, List.map_cons, List.map_nil, List.length_cons, List.length_nil, Nat.reduceSub, Nat.reduceAdd, List.replicate_succ, List.replicate_zero, List.cons_append, List.nil_append, List.append_nil, List.getElem?_cons_zero, List.getElem?_cons_succ, List.set_cons_zero, List.set_cons_succ, slD, slP, slO, dThen, dSkip, dSet, dPar, dRet, dIfS, dV, dC, dNil, dCons, dTup, dLst, dAnd, dOr, dNot, dIf, dAndT, dOrT, dNotT, dB, asB, dOp, dCb, dIsi, dCall, dACons, dANil, dAPen, dSl, dP, dNoP, asI, dAsg, gtN, gtT, gtNs, dSeq, asSeq, dIt, dYes, dRev, dNeg, gNeg, if_true, if_false, reduceIte, reduceCtorEq, few_ok, Nat.reduceLeDiff, Nat.zero_le, gInt, gmod_ok h0]
  obtain ⟨z, z0, z1, rfl⟩ := hf
  refine Y.then (φ := fun f => f = [.pen ns, .d (.int b), .d (.int z)]) ?_ fun f hf => ?_
  · refine (y_set2 (ns := ns) rfl ?_).imp fun o p => ⟨_, p, rfl⟩
    unfold dOp dCb dCons
    simp only [Mo.bind_assoc]
    refine Y.bind (y_pen2 (ns := ns) rfl) fun x p => ?_
    obtain ⟨n, rfl⟩ := p
    refine .eq (x := .int (n / b)) ?_ ⟨_, rfl⟩
    simp only [Mo.bind_assoc, Mo.pure_bind, Mo.of_some, Mo.bad_bind, Mo.raise_bind, Mo.nox_pure, Mo.nox_bind, Mo.nox_nox, Mo.nox_bad, initF, argSl, List.map_cons, List.map_nil, List.length_cons, List.length_nil, Nat.reduceSub, Nat.reduceAdd, List.replicate_succ, List.replicate_zero, List.cons_append, List.nil_append, List.append_nil, List.getElem?_cons_zero, List.getElem?_cons_succ, List.set_cons_zero, List.set_cons_succ, slD, slP, slO, dThen, dSkip, dSet, dPar, dRet, dIfS, dV, dC, dNil, dCons, dTup, dLst, dAnd, dOr, dNot, dIf, dAndT, dOrT, dNotT, dB, asB, dOp, dCb, dIsi, dCall, dACons, dANil, dAPen, dSl, dP, dNoP, asI, dAsg, gtN, gtT, gtNs, dSeq, asSeq, dIt, dYes, dRev, dNeg, gNeg, if_true, if_false, reduceIte, reduceCtorEq, few_ok, Nat.reduceLeDiff, Nat.zero_le, gInt, gdiv_ok h0 h1]
  subst hf
  exact .pure ⟨_, rfl, z, rfl, z0, z1⟩
theorem one_ok (ns : List Int) {xs : List PyData} (h0 : xs ≠ []) (h1 : xs.length < 2 ^ 64) : Y (f_law_one_of [.pen ns, .d (.list xs)]) (· ∈ xs) := by
  have hl : (0 : Int) < (xs.length : Nat) := by
    cases xs with
    | nil => exact absurd rfl h0
    | cons a b => simp only [List.length_cons]; omega
  refine Y.fn ?_
  unfold b_law_one_of
  simp only [Mo.bind_assoc, Mo.pure_bind, Mo.of_some, Mo.bad_bind, Mo.raise_bind, Mo.nox_pure, Mo.nox_bind, Mo.nox_nox, Mo.nox_bad, initF, argSl, List.map_cons, List.map_nil, List.length_cons, List.length_nil, Nat.reduceSub, Nat.reduceAdd, List.replicate_succ, List.replicate_zero, List.cons_append, List.nil_append, List.append_nil, List.getElem?_cons_zero, List.getElem?_cons_succ, List.set_cons_zero, List.set_cons_succ, slD, slP, slO, dThen, dSkip, dSet, dPar, dRet, dIfS, dV, dC, dNil, dCons, dTup, dLst, dAnd, dOr, dNot, dIf, dAndT, dOrT, dNotT, dB, asB, dOp, dCb, dIsi, dCall, dACons, dANil, dAPen, dSl, dP, dNoP, asI, dAsg, gtN, gtT, gtNs, dSeq, asSeq, dIt, dYes, dRev, dNeg, gNeg, if_true, if_false, reduceIte, reduceCtorEq, few_ok, Nat.reduceLeDiff, Nat.zero_le, gLen]
  refine Y.bind (draw_ok ns hl (by omega)) fun d p => ?_
  obtain ⟨z, rfl, z0, z1⟩ := p
  obtain ⟨x, ex, mx⟩ := atI_mem z0 z1
  refine .eq (x := .rt x) ?_ ⟨_, rfl, mx⟩
  simp only [Mo.bind_assoc, Mo.pure_bind, Mo.of_some, Mo.bad_bind, Mo.raise_bind, Mo.nox_pure, Mo.nox_bind, Mo.nox_nox, Mo.nox_bad, initF, argSl, List.map_cons, List.map_nil, List.length_cons, List.length_nil, Nat.reduceSub, Nat.reduceAdd, List.replicate_succ, List.replicate_zero, List.cons_append, List.nil_append, List.append_nil, List.getElem?_cons_zero, List.getElem?_cons_succ, List.set_cons_zero, List.set_cons_succ, slD, slP, slO, dThen, dSkip, dSet, dPar, dRet, dIfS, dV, dC, dNil, dCons, dTup, dLst, dAnd, dOr, dNot, dIf, dAndT, dOrT, dNotT, dB, asB, dOp, dCb, dIsi, dCall, dACons, dANil, dAPen, dSl, dP, dNoP, asI, dAsg, gtN, gtT, gtNs, dSeq, asSeq, dIt, dYes, dRev, dNeg, gNeg, if_true, if_false, reduceIte, reduceCtorEq, few_ok, Nat.reduceLeDiff, Nat.zero_le, gIx, ex]
end Rf

set_option maxRecDepth 100000
set_option maxHeartbeats 4000000
namespace Rf
open PySem PySem.Spec PyProof.Rows L2 Gd Dt Dl Ee Sd
/-! ### data of moderate size -/
def txs : List Str := ["send", "take", "rest", "test", "", "0", "never", "Send", "lanes", "letters", "machines", "places", "steps", "part", "told", "class"]
mutual
def gd (n : Nat) : PyData → Bool
  | .none => true
  | .bool _ => true
  | .int i => decide (i.natAbs ≤ 10 ^ 41 + n)
  | .str x => decide (x ∈ txs)
  | .list xs => gds n xs
  | .tuple xs => gds n xs
  | .dict kvs => kvs.isEmpty
def gds (n : Nat) : List PyData → Bool
  | [] => true
  | x :: xs => gd n x && gds n xs
end
theorem gds_iff {n : Nat} : ∀ {xs : List PyData}, gds n xs = true ↔ ∀ x ∈ xs, gd n x = true
  | [] => by simp [gds]
  | x :: xs => by simp [gds, gds_iff (xs := xs)]
theorem depths_iff {D : Nat} : ∀ {xs : List PyData}, PyData.depthAll xs ≤ D ↔ ∀ x ∈ xs, x.depth ≤ D
  | [] => by simp [PyData.depthAll]
  | x :: xs => by
    simp only [PyData.depthAll, List.mem_cons, forall_eq_or_imp, ← depths_iff (xs := xs)]
    omega
structure Vl (n D N : Nat) (d : PyData) : Prop where
  g : gd n d = true
  dp : d.depth ≤ D
  bk : d.bulk ≤ N
structure Vls (n D N : Nat) (xs : List PyData) : Prop where
  g : ∀ x ∈ xs, gd n x = true
  dp : ∀ x ∈ xs, x.depth ≤ D
  bk : PyData.bulkAll xs ≤ N
theorem Vl.up {n D N n' D' N' : Nat} {d : PyData} (h : Vl n D N d) (h1 : n ≤ n') (h2 : D ≤ D') (h3 : N ≤ N') : Vl n' D' N' d := by
  refine ⟨?_, Nat.le_trans h.dp h2, Nat.le_trans h.bk h3⟩
  have : ∀ m, ∀ d : PyData, sizeOf d ≤ m → gd n d = true → gd n' d = true := fun m => by
    induction m with
    | zero => intro d hd; cases d <;> simp at hd
    | succ m ih =>
      intro d hd g
      cases d with
      | int i =>
        simp only [gd, decide_eq_true_eq] at g ⊢
        omega
      | list xs =>
        simp only [gd, gds_iff] at g ⊢
        exact fun x hx => ih x (by have := List.sizeOf_lt_of_mem hx; simp only [PyData.list.sizeOf_spec] at hd; omega) (g x hx)
      | tuple xs =>
        simp only [gd, gds_iff] at g ⊢
        exact fun x hx => ih x (by have := List.sizeOf_lt_of_mem hx; simp only [PyData.tuple.sizeOf_spec] at hd; omega) (g x hx)
      | none => rfl
      | bool b => rfl
      | str x => simpa only [gd] using g
      | dict kvs => simpa only [gd] using g
  exact this _ d (Nat.le_refl _) h.g
section
variable {n D N M : Nat} {xs ys : List PyData} {d : PyData}
theorem Vl.int {i : Int} (h : i.natAbs ≤ 10 ^ 41 + n) : Vl n D N (.int i) := ⟨by simp only [gd]; exact decide_eq_true h, Nat.zero_le _, Nat.zero_le _⟩
theorem Vl.sm {i : Int} (h0 : -100 ≤ i) (h1 : i ≤ 100) : Vl n D N (.int i) := .int (by
  have : (10 : Nat) ^ 41 = 100000000000000000000000000000000000000000 := by decide
  omega)
theorem Vl.bl {b : Bool} : Vl n D N (.bool b) := ⟨rfl, Nat.zero_le _, Nat.zero_le _⟩
theorem Vl.non : Vl n D N .none := ⟨rfl, Nat.zero_le _, Nat.zero_le _⟩
theorem bulkAll_app : ∀ xs ys : List PyData, PyData.bulkAll (xs ++ ys) = PyData.bulkAll xs + PyData.bulkAll ys
  | [], ys => by simp [PyData.bulkAll]
  | x :: xs, ys => by simp only [List.cons_append, PyData.bulkAll, bulkAll_app xs ys]; omega
theorem bulkAll_sub : ∀ {xs ys : List PyData}, xs.Sublist ys → PyData.bulkAll xs ≤ PyData.bulkAll ys
  | _, _, .slnil => Nat.le_refl _
  | _, _, .cons a h => by
    have := bulkAll_sub h
    simp only [PyData.bulkAll]
    omega
  | _, _, .cons₂ a h => by
    have := bulkAll_sub h
    simp only [PyData.bulkAll]
    omega
theorem bulkAll_rev : ∀ xs : List PyData, PyData.bulkAll xs.reverse = PyData.bulkAll xs
  | [] => rfl
  | x :: xs => by simp only [List.reverse_cons, bulkAll_app, bulkAll_rev xs, PyData.bulkAll]; omega
theorem bulk_mem : ∀ {xs : List PyData} {x : PyData}, x ∈ xs → x.bulk + 1 ≤ PyData.bulkAll xs
  | [], _, h => absurd h List.not_mem_nil
  | y :: ys, x, h => by
    rcases List.mem_cons.mp h with rfl | h
    · simp only [PyData.bulkAll]
      omega
    · have := bulk_mem h
      simp only [PyData.bulkAll]
      omega
theorem len_bulk : ∀ xs : List PyData, xs.length ≤ PyData.bulkAll xs
  | [] => Nat.le_refl _
  | x :: xs => by
    have := len_bulk xs
    simp only [PyData.bulkAll, List.length_cons]
    omega
theorem Vls.nil : Vls n D N [] := ⟨fun _ h => absurd h List.not_mem_nil, fun _ h => absurd h List.not_mem_nil, Nat.zero_le _⟩
theorem Vls.cons (h : Vl n D N d) (k : Vls n D M xs) : Vls n D (N + 1 + M) (d :: xs) := by
  refine ⟨fun x hx => ?_, fun x hx => ?_, ?_⟩
  · rcases List.mem_cons.mp hx with rfl | hx
    · exact h.g
    · exact k.g x hx
  · rcases List.mem_cons.mp hx with rfl | hx
    · exact h.dp
    · exact k.dp x hx
  · have := h.bk
    have := k.bk
    simp only [PyData.bulkAll]
    omega
theorem Vls.app (h : Vls n D N xs) (k : Vls n D M ys) : Vls n D (N + M) (xs ++ ys) := by
  refine ⟨fun x hx => ?_, fun x hx => ?_, ?_⟩
  · rcases List.mem_append.mp hx with hx | hx
    · exact h.g x hx
    · exact k.g x hx
  · rcases List.mem_append.mp hx with hx | hx
    · exact h.dp x hx
    · exact k.dp x hx
  · rw [bulkAll_app]
    have := h.bk
    have := k.bk
    omega
theorem Vls.sub (h : Vls n D N ys) (k : xs.Sublist ys) : Vls n D N xs := ⟨fun x hx => h.g x (k.subset hx), fun x hx => h.dp x (k.subset hx), Nat.le_trans (bulkAll_sub k) h.bk⟩
theorem Vls.rev (h : Vls n D N xs) : Vls n D N xs.reverse := ⟨fun x hx => h.g x (List.mem_reverse.mp hx), fun x hx => h.dp x (List.mem_reverse.mp hx), by rw [bulkAll_rev]; exact h.bk⟩
theorem Vls.up {n' D' N' : Nat} (h : Vls n D N xs) (h1 : n ≤ n') (h2 : D ≤ D') (h3 : N ≤ N') : Vls n' D' N' xs :=
  ⟨fun x hx => ((⟨h.g x hx, h.dp x hx, Nat.le_refl _⟩ : Vl n D x.bulk x).up h1 h2 (Nat.le_refl _)).g, fun x hx => Nat.le_trans (h.dp x hx) h2, Nat.le_trans h.bk h3⟩
theorem Vls.mem (h : Vls n D N xs) {x : PyData} (hx : x ∈ xs) : Vl n D N x := ⟨h.g x hx, h.dp x hx, by have := bulk_mem hx; have := h.bk; omega⟩
theorem Vls.len (h : Vls n D N xs) : xs.length ≤ N := Nat.le_trans (len_bulk xs) h.bk
theorem Vls.all (h : ∀ x ∈ xs, Vl n D N x) (k : xs.length ≤ M) : Vls n D (M * (N + 1)) xs := by
  refine ⟨fun x hx => (h x hx).g, fun x hx => (h x hx).dp, ?_⟩
  have : ∀ xs : List PyData, (∀ x ∈ xs, x.bulk ≤ N) → PyData.bulkAll xs ≤ xs.length * (N + 1) := fun xs => by
    induction xs with
    | nil => intro _; exact Nat.zero_le _
    | cons x xs ih =>
      intro h
      have h1 := h x List.mem_cons_self
      have h2 := ih fun y hy => h y (List.mem_cons_of_mem _ hy)
      simp only [PyData.bulkAll, List.length_cons, Nat.succ_mul]
      omega
  exact Nat.le_trans (this xs fun x hx => (h x hx).bk) (Nat.mul_le_mul_right _ k)
theorem Vls.tup (h : Vls n D N xs) : Vl n (D + 1) N (.tuple xs) := ⟨by simp only [gd, gds_iff]; exact h.g, by simp only [PyData.depth]; exact Nat.succ_le_succ (depths_iff.mpr h.dp), by simpa only [PyData.bulk] using h.bk⟩
theorem Vls.lst (h : Vls n D N xs) : Vl n (D + 1) N (.list xs) := ⟨by simp only [gd, gds_iff]; exact h.g, by simp only [PyData.depth]; exact Nat.succ_le_succ (depths_iff.mpr h.dp), by simpa only [PyData.bulk] using h.bk⟩
theorem Vl.unt (h : Vl n (D + 1) N (.tuple xs)) : Vls n D N xs := ⟨by have := h.g; simp only [gd, gds_iff] at this; exact this, depths_iff.mp (by have := h.dp; simp only [PyData.depth] at this; omega), by have := h.bk; simpa only [PyData.bulk] using this⟩
/-! ### what is told of them -/
theorem txs_all {p : Str → Bool} (h : txs.all p = true) {x : Str} (hx : x ∈ txs) : p x = true := List.all_eq_true.mp h x hx
theorem gd_ok {n : Nat} : ∀ m, ∀ d : PyData, sizeOf d ≤ m → n ≤ 10 ^ 41 → gd n d = true → okD d = true ∧ d.showable = true ∧ d.leavesShort 50 = true := fun m => by
  induction m with
  | zero => intro d hd; cases d <;> simp at hd
  | succ m ih =>
    intro d hd hn g
    have lst : ∀ xs : List PyData, (∀ x ∈ xs, okD x = true ∧ x.showable = true ∧ x.leavesShort 50 = true) → okDs xs = true ∧ PyData.showableAll xs = true ∧ PyData.leavesShortAll 50 xs = true := fun xs => by
      induction xs with
      | nil => intro _; exact ⟨rfl, rfl, rfl⟩
      | cons x xs ih =>
        intro h
        have h1 := h x List.mem_cons_self
        have h2 := ih fun y hy => h y (List.mem_cons_of_mem _ hy)
        simp only [okDs, PyData.showableAll, PyData.leavesShortAll, h1.1, h1.2.1, h1.2.2, h2.1, h2.2.1, h2.2.2, Bool.and_self, and_self]
    cases d with
    | int i =>
      simp only [gd, decide_eq_true_eq] at g
      have e1 : i.natAbs < 10 ^ 45 := by
        have : (10 : Nat) ^ 45 = 10000 * 10 ^ 41 := by decide
        have h0 : 0 < (10 : Nat) ^ 41 := by decide
        omega
      have e2 := int_text_length_le10 (a := i) (k := 45) (by decide) e1
      refine ⟨rfl, ?_, ?_⟩
      · simp only [PyData.showable, decide_eq_true_eq]
        by_cases z : i.natAbs = 0
        · rw [z]; decide
        · rw [Nat.log2_lt z]
          exact Nat.lt_of_lt_of_le e1 (Nat.le_trans (show (10 : Nat) ^ 45 ≤ 2 ^ 150 by decide) (Nat.pow_le_pow_right (by decide) (by decide)))
      · simp only [PyData.leavesShort, decide_eq_true_eq]
        show (Str.ofString (toString i)).length ≤ 50
        rw [PySem.ofString_length]
        omega
    | list xs =>
      simp only [gd, gds_iff] at g
      exact lst xs fun x hx => ih x (by have := List.sizeOf_lt_of_mem hx; simp only [PyData.list.sizeOf_spec] at hd; omega) hn (g x hx)
    | tuple xs =>
      simp only [gd, gds_iff] at g
      exact lst xs fun x hx => ih x (by have := List.sizeOf_lt_of_mem hx; simp only [PyData.tuple.sizeOf_spec] at hd; omega) hn (g x hx)
    | none => exact ⟨rfl, rfl, rfl⟩
    | bool b => exact ⟨rfl, rfl, rfl⟩
    | str x =>
      simp only [gd, decide_eq_true_eq] at g
      refine ⟨rfl, rfl, ?_⟩
      simp only [PyData.leavesShort]
      exact txs_all (p := fun x => x.cps.toList.all fun c => decide (c < 16 ^ 8)) (by decide +kernel) g
    | dict kvs =>
      simp only [gd] at g
      cases kvs with
      | nil => exact ⟨rfl, rfl, rfl⟩
      | cons a b => cases g
theorem Vl.ok (h : Vl n D N d) (hn : n ≤ 10 ^ 41 := by decide) : okD d = true := (gd_ok _ d (Nat.le_refl _) hn h.g).1
theorem Vl.shown_len (h : Vl n D N d) (hn : n ≤ 10 ^ 41 := by decide) : d.shown.length ≤ 52 * N + 50 := by
  have := PyData.shown_le_bulk 50 (by decide) d (gd_ok _ d (Nat.le_refl _) hn h.g).2.2
  have := h.bk
  have : 52 * d.bulk ≤ 52 * N := Nat.mul_le_mul_left _ h.bk
  omega
theorem Vl.rep (h : Vl n D N d) (hn : n ≤ 10 ^ 41 := by decide) (hD : D ≤ 40 := by decide) (hN : N ≤ 300000 := by decide) : gRepr [d] = some (.str d.shown) := by
  have k := gd_ok _ d (Nat.le_refl _) hn h.g
  have l := h.shown_len hn
  show (if d.showable = true ∧ okD d = true ∧ d.depth ≤ 40 ∧ d.shown.length ≤ sizeLine then some (PyData.str d.shown) else none) = _
  rw [if_pos]
  exact ⟨k.2.1, k.1, Nat.le_trans h.dp hD, by rw [show sizeLine = 16777216 from rfl]; omega⟩
/-- signs of texts -/
def Cl (x : Str) : Prop := ∀ c ∈ x.cps.toList, c < 16 ^ 8
theorem Cl.app {x y : Str} (h : Cl x) (k : Cl y) : Cl (x ++ y) := fun c hc => by
  have : c ∈ (x.cps ++ y.cps).toList := hc
  rw [Array.toList_append] at this
  rcases List.mem_append.mp this with z | z
  · exact h c z
  · exact k c z
theorem Cl.of (s : String) : Cl (Str.ofString s) := fun c hc => by
  rw [Str.ofString_eq_toList] at hc
  obtain ⟨a, _, rfl⟩ := List.mem_map.mp (show c ∈ s.toList.map Char.toNat from hc)
  have := a.valid
  have e : a.toNat < 0x110000 := by
    rcases this with z | z
    · exact Nat.lt_of_lt_of_le z (by decide)
    · exact z.2
  exact Nat.lt_of_lt_of_le e (by decide)
theorem Cl.join {s : Str} (hs : Cl s) : ∀ {ts : List Str}, (∀ t ∈ ts, Cl t) → Cl (Str.join s ts)
  | [], _ => fun c hc => absurd (show c ∈ ([] : List Nat) from hc) List.not_mem_nil
  | [x], h => h x List.mem_cons_self
  | x :: y :: r, h => ((h x List.mem_cons_self).app hs).app (Cl.join hs fun t ht => h t (List.mem_cons_of_mem _ ht))
theorem Cl.from : ∀ {ts : List Str} {k : Nat} {acc : Str}, Cl acc → (∀ t ∈ ts, Cl t) → Cl (textFrom k acc ts)
  | [], _, _, h, _ => h
  | t :: ts, k, acc, h, g => Cl.from (ts := ts) ((h.app (by split <;> exact .of _)).app (g t List.mem_cons_self)) fun u hu => g u (List.mem_cons_of_mem _ hu)
theorem cl_shown {n : Nat} : ∀ m, ∀ d : PyData, sizeOf d ≤ m → gd n d = true → Cl d.shown := fun m => by
  induction m with
  | zero => intro d hd; cases d <;> simp at hd
  | succ m ih =>
    intro d hd g
    have lst : ∀ xs : List PyData, (∀ x ∈ xs, Cl x.shown) → ∀ t ∈ PyData.shownAll xs, Cl t := fun xs => by
      induction xs with
      | nil => intro _ t ht; exact absurd ht List.not_mem_nil
      | cons x xs ih =>
        intro h t ht
        rcases List.mem_cons.mp (show t ∈ x.shown :: PyData.shownAll xs from ht) with rfl | ht
        · exact h x List.mem_cons_self
        · exact ih (fun y hy => h y (List.mem_cons_of_mem _ hy)) t ht
    cases d with
    | int i => exact .of _
    | list xs =>
      simp only [gd, gds_iff] at g
      exact (Cl.from (.of _) (lst xs fun x hx => ih x (by have := List.sizeOf_lt_of_mem hx; simp only [PyData.list.sizeOf_spec] at hd; omega) (g x hx))).app (.of _)
    | tuple xs =>
      simp only [gd, gds_iff] at g
      exact ((Cl.of _).app (Cl.join (.of _) (lst xs fun x hx => ih x (by have := List.sizeOf_lt_of_mem hx; simp only [PyData.tuple.sizeOf_spec] at hd; omega) (g x hx)))).app (by split <;> exact .of _)
    | none => exact .of _
    | bool b => cases b <;> exact .of _
    | str x =>
      simp only [gd, decide_eq_true_eq] at g
      have := txs_all (p := fun x => (reprText x).cps.toList.all fun c => decide (c < 16 ^ 8)) (by decide +kernel) g
      exact fun c hc => of_decide_eq_true (List.all_eq_true.mp this c hc)
    | dict kvs =>
      simp only [gd] at g
      cases kvs with
      | nil => exact ((Cl.of _).app (Cl.join (.of _) fun t ht => absurd ht List.not_mem_nil)).app (.of _)
      | cons a b => cases g
/-- a pair of a word and the text of a value -/
theorem rep_told (h : Vl n D N d) (hn : n ≤ 10 ^ 41 := by decide) (hN : N ≤ 20000 := by decide) : gRepr [.tuple [.str "told", .str d.shown]] = some (.str (PyData.tuple [.str "told", .str d.shown]).shown) := by
  have l := h.shown_len hn
  have c := cl_shown (n := n) _ d (Nat.le_refl _) h.g
  have k : (PyData.tuple [.str "told", .str d.shown]).leavesShort 50 = true := by
    simp only [PyData.leavesShort, PyData.leavesShortAll, Bool.and_true, Bool.and_eq_true]
    exact ⟨by decide +kernel, List.all_eq_true.mpr fun x hx => decide_eq_true (c x hx)⟩
  have e1 := PyData.shown_le 8 (by decide) (.tuple [.str "told", .str d.shown]) (by
    simp only [PyData.leavesShort, PyData.leavesShortAll, Bool.and_true, Bool.and_eq_true]
    exact ⟨by decide +kernel, List.all_eq_true.mpr fun x hx => decide_eq_true (c x hx)⟩)
  have e2 : (PyData.tuple [.str "told", .str d.shown]).weight = 4 + 1 + (d.shown.length + 1) := by
    simp only [PyData.weight, PyData.weightAll]
    rfl
  show (if (PyData.tuple [.str "told", .str d.shown]).showable = true ∧ okD (.tuple [.str "told", .str d.shown]) = true ∧ (PyData.tuple [.str "told", .str d.shown]).depth ≤ 40 ∧ (PyData.tuple [.str "told", .str d.shown]).shown.length ≤ sizeLine then some (PyData.str (PyData.tuple [.str "told", .str d.shown]).shown) else none) = _
  rw [if_pos]
  refine ⟨rfl, rfl, Nat.le_of_ble_eq_true rfl, ?_⟩
  rw [e2] at e1
  rw [show sizeLine = 16777216 from rfl]
  omega
end
end Rf

/-! words within others: the mathematics alone -/
namespace M1
/-- how many letters at the front are less -/
def seek (l : Int) : List Int → Nat
  | [] => 0
  | x :: xs => if x < l then seek l xs + 1 else 0
theorem seek_le (l : Int) : ∀ xs : List Int, seek l xs ≤ xs.length
  | [] => Nat.le_refl _
  | x :: xs => by
    have := seek_le l xs
    unfold seek
    split
    · rw [List.length_cons]; omega
    · exact Nat.zero_le _
/-- where the letter is found from a place on: the length if it is not -/
def found (o : List Int) (l : Int) (at_ : Nat) : Nat := at_ + seek l (o.drop at_)
def greedy (o : List Int) : List Int → Nat → Option (List Nat)
  | [], _ => some []
  | l :: w, k => if found o l k = o.length then none else (greedy o w (found o l k + 1)).map (found o l k :: ·)
theorem found_le {o : List Int} {l : Int} {k : Nat} (h : k ≤ o.length) : found o l k ≤ o.length := by
  have := seek_le l (o.drop k)
  rw [List.length_drop] at this
  unfold found
  omega
theorem found_ge (o : List Int) (l : Int) (k : Nat) : k ≤ found o l k := Nat.le_add_right _ _
/-- one step of the search -/
theorem found_step {o : List Int} {l x : Int} {k : Nat} (h : o[k]? = some x) (hx : x < l) : found o l k = found o l (k + 1) := by
  obtain ⟨hk, e⟩ := List.getElem?_eq_some_iff.mp h
  unfold found
  rw [List.drop_eq_getElem_cons hk, e]
  show k + (if x < l then seek l (o.drop (k + 1)) + 1 else 0) = _
  rw [if_pos hx]
  omega
theorem found_here {o : List Int} {l x : Int} {k : Nat} (h : o[k]? = some x) (hx : ¬ x < l) : found o l k = k := by
  obtain ⟨hk, e⟩ := List.getElem?_eq_some_iff.mp h
  unfold found
  rw [List.drop_eq_getElem_cons hk, e]
  show k + (if x < l then seek l (o.drop (k + 1)) + 1 else 0) = _
  rw [if_neg hx]
  omega
theorem found_end {o : List Int} {l : Int} : found o l o.length = o.length := by
  unfold found
  rw [List.drop_length]
  rfl
/-- what lies ahead of the place found is less; what lies there is not -/
theorem found_less (o : List Int) (l : Int) : ∀ (n k j : Nat) (x : Int), o.length - k = n → k ≤ j → j < found o l k → o[j]? = some x → x < l := by
  intro n
  induction n with
  | zero =>
    intro k j x hn hk hj hx
    have hj2 := (List.getElem?_eq_some_iff.mp hx).1
    omega
  | succ n ih =>
    intro k j x hn hk hj hx
    have hlt : k < o.length := by omega
    have e := List.getElem?_eq_getElem hlt
    by_cases hx2 : o[k] < l
    · by_cases hjk : j = k
      · subst hjk
        rw [e] at hx
        cases hx
        exact hx2
      · rw [found_step e hx2] at hj
        exact ih (k + 1) j x (by omega) (by omega) hj hx
    · rw [found_here e hx2] at hj
      omega
theorem found_not (o : List Int) (l : Int) : ∀ (n k : Nat), o.length - k = n → k ≤ o.length → found o l k ≠ o.length → ∃ x, o[found o l k]? = some x ∧ ¬ x < l := by
  intro n
  induction n with
  | zero =>
    intro k hn hk hf
    have e : k = o.length := by omega
    subst e
    exact absurd found_end hf
  | succ n ih =>
    intro k hn hk hf
    have hlt : k < o.length := by omega
    have e := List.getElem?_eq_getElem hlt
    by_cases hx : o[k] < l
    · rw [found_step e hx] at hf ⊢
      exact ih (k + 1) (by omega) (by omega) hf
    · rw [found_here e hx]
      exact ⟨_, e, hx⟩
/-! all tuples of places -/
def leastOf (row : List Nat) : Nat := match row.getLast? with
  | none => 0
  | some k => k + 1
theorem leastOf_app (row : List Nat) (k : Nat) : leastOf (row ++ [k]) = k + 1 := by simp [leastOf]
def good (o : List Int) (l : Int) (k : Nat) : Bool := match o[k]? with
  | some x => decide (l ≤ x)
  | none => false
def cand (o : List Int) (l : Int) (lo : Nat) : List Nat := (List.range' lo (o.length - lo)).filter (good o l)
def exts (o : List Int) (l : Int) (row : List Nat) : List (List Nat) := (cand o l (leastOf row)).map fun k => row ++ [k]
def level (o : List Int) (l : Int) (rows : List (List Nat)) : List (List Nat) := rows.flatMap (exts o l)
def allPlaces (o w : List Int) : List (List Nat) := w.foldl (fun rows l => level o l rows) [[]]
theorem cand_mem {o : List Int} {l : Int} {lo k : Nat} (h : k ∈ cand o l lo) : lo ≤ k ∧ k < o.length ∧ good o l k = true := by
  unfold cand at h
  obtain ⟨h1, h2⟩ := List.mem_filter.mp h
  have h3 := List.mem_range'_1.mp h1
  exact ⟨h3.1, by omega, h2⟩
theorem cand_least {o : List Int} {l : Int} {lo k : Nat} (h : k ∈ cand o l lo) : found o l lo ≤ k := by
  obtain ⟨h1, h2, h3⟩ := cand_mem h
  by_cases hk : k < found o l lo
  · exfalso
    have e := List.getElem?_eq_getElem h2
    have := found_less o l _ lo k _ rfl h1 hk e
    unfold good at h3
    rw [e] at h3
    have := of_decide_eq_true h3
    omega
  · omega
/-- the candidates from a place on: none, or the place found and later ones -/
theorem cand_head (o : List Int) (l : Int) : ∀ (n lo : Nat), o.length - lo = n → lo ≤ o.length → (cand o l lo).head? = if found o l lo = o.length then none else some (found o l lo) := by
  intro n
  induction n with
  | zero =>
    intro lo hn hlo
    have e : lo = o.length := by omega
    subst e
    rw [if_pos found_end]
    unfold cand
    rw [Nat.sub_self]
    rfl
  | succ n ih =>
    intro lo hn hlo
    have hlt : lo < o.length := by omega
    have e := List.getElem?_eq_getElem hlt
    have ec : cand o l lo = if good o l lo = true then lo :: cand o l (lo + 1) else cand o l (lo + 1) := by
      unfold cand
      have : o.length - lo = (o.length - (lo + 1)) + 1 := by omega
      rw [this, List.range'_succ, List.filter_cons]
    rw [ec]
    by_cases hx : o[lo] < l
    · have hg : ¬ good o l lo = true := by
        unfold good
        rw [e]
        intro h
        have := of_decide_eq_true h
        omega
      rw [if_neg hg, found_step e hx]
      exact ih (lo + 1) (by omega) (by omega)
    · have hg : good o l lo = true := by
        unfold good
        rw [e]
        exact decide_eq_true (by omega)
      rw [if_pos hg, found_here e hx, if_neg (by omega)]
      rfl
theorem level_nil (o : List Int) (l : Int) : level o l [] = [] := rfl
theorem fold_nil (o : List Int) : ∀ w : List Int, w.foldl (fun rows l => level o l rows) [] = []
  | [] => rfl
  | l :: w => by
    rw [List.foldl_cons, level_nil]
    exact fold_nil o w
theorem cand_empty {o : List Int} {l : Int} {a b : Nat} (hab : a ≤ b) (h : cand o l a = []) : cand o l b = [] := by
  apply List.eq_nil_iff_forall_not_mem.mpr
  intro k hk
  obtain ⟨h1, h2, h3⟩ := cand_mem hk
  have : k ∈ cand o l a := by
    unfold cand
    exact List.mem_filter.mpr ⟨List.mem_range'_1.mpr ⟨by omega, by omega⟩, h3⟩
  rw [h] at this
  cases this
theorem fold_head (o : List Int) : ∀ (w : List Int) (r : List Nat) (rest : List (List Nat)), leastOf r ≤ o.length → (∀ x ∈ rest, leastOf r ≤ leastOf x) →
    (w.foldl (fun rows l => level o l rows) (r :: rest)).head? = (greedy o w (leastOf r)).map (r ++ ·)
  | [], r, rest, _, _ => by simp [greedy]
  | l :: w, r, rest, hr, hm => by
    rw [List.foldl_cons]
    have hh := cand_head o l _ (leastOf r) rfl hr
    by_cases hf : found o l (leastOf r) = o.length
    · rw [if_pos hf] at hh
      have hc : cand o l (leastOf r) = [] := List.head?_eq_none_iff.mp hh
      have he : level o l (r :: rest) = [] := by
        unfold level
        rw [List.flatMap_eq_nil_iff]
        intro x hx
        unfold exts
        rw [List.map_eq_nil_iff]
        rcases List.mem_cons.mp hx with rfl | hx
        · exact hc
        · exact cand_empty (hm x hx) hc
      rw [he, fold_nil]
      simp [greedy, hf]
    · rw [if_neg hf] at hh
      have hfl : found o l (leastOf r) < o.length := by
        have := found_le (o := o) (l := l) hr
        omega
      obtain ⟨tl, htl⟩ : ∃ tl, cand o l (leastOf r) = found o l (leastOf r) :: tl := by
        cases e : cand o l (leastOf r) with
        | nil => rw [e] at hh; cases hh
        | cons a b =>
          rw [e] at hh
          cases hh
          exact ⟨b, rfl⟩
      have he : level o l (r :: rest) = (r ++ [found o l (leastOf r)]) :: (tl.map (fun k => r ++ [k]) ++ level o l rest) := by
        unfold level
        rw [List.flatMap_cons]
        unfold exts
        rw [htl]
        rfl
      rw [he, fold_head o w _ _ (by rw [leastOf_app]; omega) ?_]
      · rw [leastOf_app]
        show _ = (if found o l (leastOf r) = o.length then none else _).map _
        rw [if_neg hf, Option.map_map]
        congr 1
        funext x
        simp
      · intro x hx
        rw [leastOf_app]
        rcases List.mem_append.mp hx with hx | hx
        · obtain ⟨k, hk, rfl⟩ := List.mem_map.mp hx
          rw [leastOf_app]
          have : k ∈ cand o l (leastOf r) := by rw [htl]; exact List.mem_cons_of_mem _ hk
          have := cand_least this
          omega
        · unfold level at hx
          obtain ⟨y, hy, hx⟩ := List.mem_flatMap.mp hx
          unfold exts at hx
          obtain ⟨k, hk, rfl⟩ := List.mem_map.mp hx
          rw [leastOf_app]
          have h1 := cand_mem hk
          have h2 := hm y hy
          have : k ∈ cand o l (leastOf r) := by
            unfold cand
            exact List.mem_filter.mpr ⟨List.mem_range'_1.mpr ⟨by omega, by omega⟩, h1.2.2⟩
          have := cand_least this
          omega
/-- the first of all tuples of places is the one that is found letter by letter -/
theorem first_place (o w : List Int) : (allPlaces o w).head? = greedy o w 0 := by
  unfold allPlaces
  rw [fold_head o w [] [] (Nat.zero_le _) (fun x hx => by cases hx)]
  show (greedy o w 0).map ([] ++ ·) = _
  cases greedy o w 0 <;> rfl
theorem level_len {o : List Int} {l : Int} {rows : List (List Nat)} : (level o l rows).length ≤ rows.length * o.length := by
  unfold level
  induction rows with
  | nil => simp
  | cons r rows ih =>
    rw [List.flatMap_cons, List.length_append, List.length_cons, Nat.succ_mul]
    have : (exts o l r).length ≤ o.length := by
      unfold exts cand
      rw [List.length_map]
      have h1 := List.length_filter_le (good o l) (List.range' (leastOf r) (o.length - leastOf r))
      rw [List.length_range'] at h1
      omega
    omega

/-- the tuples of places of the first letters -/
def pl (o w : List Int) (i : Nat) : List (List Nat) := (w.take i).foldl (fun rows l => level o l rows) [[]]
theorem pl_zero (o w : List Int) : pl o w 0 = [[]] := by
  unfold pl
  rw [List.take_zero]
  rfl
theorem pl_succ {o w : List Int} {i : Nat} {l : Int} (h : w[i]? = some l) : pl o w (i + 1) = level o l (pl o w i) := by
  unfold pl
  rw [List.take_add_one, h, List.foldl_append]
  rfl
theorem pl_end (o w : List Int) : pl o w w.length = allPlaces o w := by
  unfold pl allPlaces
  rw [List.take_length]
theorem pl_row {o w : List Int} : ∀ {i : Nat}, i ≤ w.length → ∀ r ∈ pl o w i, r.length = i
  | 0, _ => fun r hr => by
    rw [pl_zero] at hr
    rw [List.mem_singleton.mp hr]
    rfl
  | i + 1, hi => fun r hr => by
    have e := List.getElem?_eq_getElem (show i < w.length by omega)
    rw [pl_succ e] at hr
    unfold level at hr
    obtain ⟨y, hy, hx⟩ := List.mem_flatMap.mp hr
    unfold exts at hx
    obtain ⟨k, _, rfl⟩ := List.mem_map.mp hx
    rw [List.length_append, List.length_singleton, pl_row (by omega) y hy]
theorem pl_least {o w : List Int} : ∀ {i : Nat}, i ≤ w.length → ∀ r ∈ pl o w i, leastOf r ≤ o.length
  | 0, _ => fun r hr => by
    rw [pl_zero] at hr
    rw [List.mem_singleton.mp hr]
    exact Nat.zero_le _
  | i + 1, hi => fun r hr => by
    have e := List.getElem?_eq_getElem (show i < w.length by omega)
    rw [pl_succ e] at hr
    unfold level at hr
    obtain ⟨y, hy, hx⟩ := List.mem_flatMap.mp hr
    unfold exts at hx
    obtain ⟨k, hk, rfl⟩ := List.mem_map.mp hx
    rw [leastOf_app]
    exact (cand_mem hk).2.1
theorem pl_len {o w : List Int} (ho : o.length ≤ 12) : ∀ {i : Nat}, i ≤ w.length → (pl o w i).length ≤ 12 ^ i
  | 0, _ => by
    rw [pl_zero]
    decide
  | i + 1, hi => by
    have e := List.getElem?_eq_getElem (show i < w.length by omega)
    rw [pl_succ e]
    have h1 := level_len (o := o) (l := w[i]) (rows := pl o w i)
    have h2 := pl_len ho (w := w) (i := i) (by omega)
    have h3 : (pl o w i).length * o.length ≤ 12 ^ i * 12 := Nat.mul_le_mul h2 ho
    rw [Nat.pow_succ]
    omega
theorem level_take {o : List Int} {l : Int} {rows : List (List Nat)} {j : Nat} {r : List Nat} (h : rows[j]? = some r) : level o l (rows.take (j + 1)) = level o l (rows.take j) ++ exts o l r := by
  unfold level
  rw [List.take_add_one, h, List.flatMap_append]
  simp
theorem range'_take (lo n i : Nat) (h : i < n) : (List.range' lo n).take (i + 1) = (List.range' lo n).take i ++ [lo + i] := by
  rw [List.take_add_one, List.getElem?_range' h]
  simp
end M1

set_option maxRecDepth 100000
set_option maxHeartbeats 4000000
namespace Rf
open PySem PySem.Spec PyProof.Rows L2 Gd Dt Dl Ee Sd
section
variable {d u a b : DS} {t : DT} {fm f : Fm} {x y z : PyData} {e e2 : DE} {g : G2} {q : Bool}
theorem then_nx (h : d fm = Mo.pure (.nx f)) : dThen d u fm = u f := by unfold dThen; rw [h]; rfl
theorem then_rt (h : d fm = Mo.pure (.rt x)) : dThen d u fm = Mo.pure (.rt x) := by unfold dThen; rw [h]; rfl
theorem ifs_t (h : t fm = Mo.pure true) : dIfS t a b fm = a fm := by unfold dIfS; rw [h]; rfl
theorem ifs_f (h : t fm = Mo.pure false) : dIfS t a b fm = b fm := by unfold dIfS; rw [h]; rfl
theorem wh_go {n : Nat} (h : t fm = Mo.pure true) (k : b fm = Mo.pure (.nx f)) : whGo t b (n + 1) fm = whGo t b n f := by
  show (t fm).bind _ = _
  rw [h, Mo.pure_bind]
  show (b fm).bind _ = _
  rw [k]
  rfl
theorem wh_end {n : Nat} (h : t fm = Mo.pure false) : whGo t b (n + 1) fm = Mo.pure (.nx fm) := by
  show (t fm).bind _ = _
  rw [h]
  rfl
theorem for_nx {g : Gt} {b : DS} {x : PyData} {xs : List PyData} {fm f1 f2 : Fm} (h : g x fm = some f1) (k : b f1 = Mo.pure (.nx f2)) : forGo g b (x :: xs) fm = forGo g b xs f2 := by
  show (Mo.of (g x fm)).bind _ = _
  rw [h, Mo.of_some, Mo.pure_bind, k]
  rfl
theorem for_rt {g : Gt} {b : DS} {x z : PyData} {xs : List PyData} {fm f1 : Fm} (h : g x fm = some f1) (k : b f1 = Mo.pure (.rt z)) : forGo g b (x :: xs) fm = Mo.pure (.rt z) := by
  show (Mo.of (g x fm)).bind _ = _
  rw [h, Mo.of_some, Mo.pure_bind, k]
  rfl
theorem app_eq {i : Nat} {xs : List PyData} (h : fm[i]? = some (.own xs)) (l : xs.length ≤ 90000) (k : e fm = Mo.pure y) : dApp i e fm = Mo.pure (.nx (fm.set i (.own (xs ++ [y])))) := by
  unfold dApp
  rw [h]
  show (e fm).bind _ = _
  rw [k, Mo.pure_bind, few_ok l]
  rfl
end
/-! ### place_in -/
def tupN (ps : List Nat) : PyData := tupI (ps.map fun n : Nat => (n : Int))
def posD (ps : List Nat) : List PyData := (ps.map fun n : Nat => (n : Int)).map .int
def plD (w o : List Int) : PyData := match M1.greedy o w 0 with
  | none => .none
  | some ps => tupN ps
theorem greedy_short (o : List Int) : ∀ (w : List Int) (k : Nat) (ps : List Nat), k ≤ o.length → M1.greedy o w k = some ps → k + w.length ≤ o.length
  | [], k, ps, hk, _ => by simpa using hk
  | l :: w, k, ps, hk, h => by
    unfold M1.greedy at h
    split at h
    · cases h
    · rename_i hf
      have h1 := M1.found_le (o := o) (l := l) hk
      have h2 := M1.found_ge o l k
      obtain ⟨qs, e, rfl⟩ := Option.map_eq_some_iff.mp h
      have := greedy_short o w _ qs (by omega) e
      simp only [List.length_cons]
      omega
def tWh : DT := dAndT (dB (dOp gLe (dV 3) (dV 4))) (dB (dOp gLt (dOp gIx (dV 1) (dV 3)) (dV 5)))
def bWh : DS := dAug 3 gAddI (dC (.int 1))
theorem atI_nat {xs : List PyData} {j : Nat} (h : j < xs.length) : atI xs (j : Int) = some xs[j] := by
  rw [atI_ok (by omega) (by omega)]
  rfl
theorem wh_ok {W : PyData} {o : List Int} {own : Sl} {L l : Int} (hL : L < (o.length : Nat)) : ∀ (n b : Nat), b ≤ o.length → o.length - b < n → ∃ c : Nat, whGo tWh bWh n [.d W, .d (tupI o), own, .d (.int (b : Nat)), .d (.int L), .d (.int l)] = Mo.pure (.nx [.d W, .d (tupI o), own, .d (.int (c : Nat)), .d (.int L), .d (.int l)]) ∧ M1.found o l c = M1.found o l b ∧ b ≤ c ∧ c ≤ o.length ∧ (L < (c : Nat) ∨ ∃ x, o[c]? = some x ∧ ¬ x < l)
  | 0, b, hb, hn => by omega
  | n + 1, b, hb, hn => by
    cases t1 : decide (((b : Nat) : Int) ≤ L) with
    | false =>
      refine ⟨b, wh_end ?_, rfl, Nat.le_refl _, hb, .inl ?_⟩
      · simp only [Mo.bind_assoc, Mo.pure_bind, Mo.of_some, Mo.bad_bind, Mo.raise_bind, Mo.nox_pure, Mo.nox_bind, Mo.nox_nox, Mo.nox_bad, initF, argSl, List.map_cons, List.map_nil, List.length_cons, List.length_nil, Nat.reduceSub, Nat.reduceAdd, List.replicate_succ, List.replicate_zero, List.cons_append, List.nil_append, List.append_nil, List.getElem?_cons_zero, List.getElem?_cons_succ, List.set_cons_zero, List.set_cons_succ, slD, slP, slO, dThen, dSkip, dSet, dPar, dRet, dIfS, dV, dC, dNil, dCons, dTup, dLst, dAnd, dOr, dNot, dIf, dAndT, dOrT, dNotT, dB, asB, dOp, dCb, dIsi, dCall, dACons, dANil, dAPen, dSl, dP, dNoP, asI, dAsg, gtN, gtT, gtNs, dSeq, asSeq, dIt, dYes, dRev, dNeg, gNeg, if_true, if_false, reduceIte, reduceCtorEq, few_ok, Nat.reduceLeDiff, Nat.zero_le, tWh, gLe, t1]
      · have := of_decide_eq_false t1
        omega
    | true =>
      have hlt : b < o.length := by
        have := of_decide_eq_true t1
        omega
      have e := List.getElem?_eq_getElem hlt
      have ex : gIx (tupI o) (.int (b : Nat)) = some (.int o[b]) := by
        show atI (o.map PyData.int) (b : Int) = _
        rw [atI_nat (by rw [List.length_map]; exact hlt), List.getElem_map]
      cases t2 : decide (o[b] < l) with
      | false =>
        refine ⟨b, wh_end ?_, rfl, Nat.le_refl _, hb, .inr ⟨_, e, of_decide_eq_false t2⟩⟩
        simp only [Mo.bind_assoc, Mo.pure_bind, Mo.of_some, Mo.bad_bind, Mo.raise_bind, Mo.nox_pure, Mo.nox_bind, Mo.nox_nox, Mo.nox_bad, initF, argSl, List.map_cons, List.map_nil, List.length_cons, List.length_nil, Nat.reduceSub, Nat.reduceAdd, List.replicate_succ, List.replicate_zero, List.cons_append, List.nil_append, List.append_nil, List.getElem?_cons_zero, List.getElem?_cons_succ, List.set_cons_zero, List.set_cons_succ, slD, slP, slO, dThen, dSkip, dSet, dPar, dRet, dIfS, dV, dC, dNil, dCons, dTup, dLst, dAnd, dOr, dNot, dIf, dAndT, dOrT, dNotT, dB, asB, dOp, dCb, dIsi, dCall, dACons, dANil, dAPen, dSl, dP, dNoP, asI, dAsg, gtN, gtT, gtNs, dSeq, asSeq, dIt, dYes, dRev, dNeg, gNeg, if_true, if_false, reduceIte, reduceCtorEq, few_ok, Nat.reduceLeDiff, Nat.zero_le, tWh, gLe, t1, ex, gLt, t2]
      | true =>
        obtain ⟨c, h1, h2, h3, h4, h5⟩ := wh_ok (W := W) (own := own) (l := l) hL n (b + 1) hlt (by omega)
        refine ⟨c, (wh_go ?_ ?_).trans h1, h2.trans (M1.found_step e (of_decide_eq_true t2)).symm, by omega, h4, h5⟩
        · simp only [Mo.bind_assoc, Mo.pure_bind, Mo.of_some, Mo.bad_bind, Mo.raise_bind, Mo.nox_pure, Mo.nox_bind, Mo.nox_nox, Mo.nox_bad, initF, argSl, List.map_cons, List.map_nil, List.length_cons, List.length_nil, Nat.reduceSub, Nat.reduceAdd, List.replicate_succ, List.replicate_zero, List.cons_append, List.nil_append, List.append_nil, List.getElem?_cons_zero, List.getElem?_cons_succ, List.set_cons_zero, List.set_cons_succ, slD, slP, slO, dThen, dSkip, dSet, dPar, dRet, dIfS, dV, dC, dNil, dCons, dTup, dLst, dAnd, dOr, dNot, dIf, dAndT, dOrT, dNotT, dB, asB, dOp, dCb, dIsi, dCall, dACons, dANil, dAPen, dSl, dP, dNoP, asI, dAsg, gtN, gtT, gtNs, dSeq, asSeq, dIt, dYes, dRev, dNeg, gNeg, if_true, if_false, reduceIte, reduceCtorEq, few_ok, Nat.reduceLeDiff, Nat.zero_le, tWh, gLe, t1, ex, gLt, t2]
        · simp only [Mo.bind_assoc, Mo.pure_bind, Mo.of_some, Mo.bad_bind, Mo.raise_bind, Mo.nox_pure, Mo.nox_bind, Mo.nox_nox, Mo.nox_bad, initF, argSl, List.map_cons, List.map_nil, List.length_cons, List.length_nil, Nat.reduceSub, Nat.reduceAdd, List.replicate_succ, List.replicate_zero, List.cons_append, List.nil_append, List.append_nil, List.getElem?_cons_zero, List.getElem?_cons_succ, List.set_cons_zero, List.set_cons_succ, slD, slP, slO, dThen, dSkip, dSet, dPar, dRet, dIfS, dV, dC, dNil, dCons, dTup, dLst, dAnd, dOr, dNot, dIf, dAndT, dOrT, dNotT, dB, asB, dOp, dCb, dIsi, dCall, dACons, dANil, dAPen, dSl, dP, dNoP, asI, dAsg, gtN, gtT, gtNs, dSeq, asSeq, dIt, dYes, dRev, dNeg, gNeg, if_true, if_false, reduceIte, reduceCtorEq, few_ok, Nat.reduceLeDiff, Nat.zero_le, bWh, dAug, gAddI]
          rfl
def bPl : DS := (dThen (dWhile WN tWh bWh)
    (dThen (dIfS (dB (dOp gGt (dV 3) (dV 4))) (dRet (dC .none)) dSkip)
    (dThen (dApp 2 (dV 3))
    (dThen (dAug 3 gAddI (dC (.int 1)))
    (dAug 4 gAddI (dC (.int 1)))))))
theorem pl_for {W : PyData} {o : List Int} (ho : o.length ≤ 600) : ∀ (w : List Int) (a : Nat) (ps : List Nat) (x : Sl), a ≤ o.length → ps.length + w.length ≤ 600 →
    match M1.greedy o w a with
    | none => forGo (gtN 5) bPl (w.map .int) [.d W, .d (tupI o), .own (posD ps), .d (.int (a : Nat)), .d (.int ((o.length : Nat) - (w.length : Nat))), x] = Mo.pure (.rt .none)
    | some qs => ∃ y z x', forGo (gtN 5) bPl (w.map .int) [.d W, .d (tupI o), .own (posD ps), .d (.int (a : Nat)), .d (.int ((o.length : Nat) - (w.length : Nat))), x] = Mo.pure (.nx [.d W, .d (tupI o), .own (posD (ps ++ qs)), y, z, x'])
  | [], a, ps, x, ha, hl => ⟨_, _, _, by rw [List.append_nil]; rfl⟩
  | l :: w, a, ps, x, ha, hl => by
    simp only [List.length_cons] at hl
    obtain ⟨c, h1, h2, h3, h4, h5⟩ := wh_ok (W := W) (o := o) (own := .own (posD ps)) (L := (o.length : Nat) - ((l :: w).length : Nat)) (l := l) (by simp only [List.length_cons]; omega) WN a ha (by show _ < 5000; omega)
    have st1 : ∀ u : DS, dThen (dWhile WN tWh bWh) u [.d W, .d (tupI o), .own (posD ps), .d (.int (a : Nat)), .d (.int ((o.length : Nat) - ((l :: w).length : Nat))), .d (.int l)] = u [.d W, .d (tupI o), .own (posD ps), .d (.int (c : Nat)), .d (.int ((o.length : Nat) - ((l :: w).length : Nat))), .d (.int l)] := fun u => then_nx h1
    cases t : decide (((o.length : Nat) : Int) - ((l :: w).length : Nat) < (c : Nat)) with
    | true =>
      have hc := of_decide_eq_true t
      have t' := t
      simp only [List.length_cons] at t'
      simp only [List.length_cons] at hc
      have gn : M1.greedy o (l :: w) a = none := by
        cases e : M1.greedy o (l :: w) a with
        | none => rfl
        | some qs =>
          unfold M1.greedy at e
          split at e
          · cases e
          · rename_i hf
            obtain ⟨q, e1, _⟩ := Option.map_eq_some_iff.mp e
            have k1 := M1.found_le (o := o) (l := l) ha
            have k2 := M1.found_ge o l c
            have := greedy_short o w _ q (by omega) e1
            omega
      rw [gn]
      refine for_rt rfl ((st1 _).trans (then_rt ((ifs_t ?_).trans rfl)))
      simp only [Mo.bind_assoc, Mo.pure_bind, Mo.of_some, Mo.bad_bind, Mo.raise_bind, Mo.nox_pure, Mo.nox_bind, Mo.nox_nox, Mo.nox_bad, initF, argSl, List.map_cons, List.map_nil, List.length_cons, List.length_nil, Nat.reduceSub, Nat.reduceAdd, List.replicate_succ, List.replicate_zero, List.cons_append, List.nil_append, List.append_nil, List.getElem?_cons_zero, List.getElem?_cons_succ, List.set_cons_zero, List.set_cons_succ, slD, slP, slO, dThen, dSkip, dSet, dPar, dRet, dIfS, dV, dC, dNil, dCons, dTup, dLst, dAnd, dOr, dNot, dIf, dAndT, dOrT, dNotT, dB, asB, dOp, dCb, dIsi, dCall, dACons, dANil, dAPen, dSl, dP, dNoP, asI, dAsg, gtN, gtT, gtNs, dSeq, asSeq, dIt, dYes, dRev, dNeg, gNeg, if_true, if_false, reduceIte, reduceCtorEq, few_ok, Nat.reduceLeDiff, Nat.zero_le, gGt, t']
    | false =>
      have hc := of_decide_eq_false t
      have t' := t
      simp only [List.length_cons] at t'
      simp only [List.length_cons] at hc
      have hx : ∃ x, o[c]? = some x ∧ ¬ x < l := by
        rcases h5 with h | h
        · simp only [List.length_cons] at h
          omega
        · exact h
      obtain ⟨x0, ex, hx0⟩ := hx
      have hclt := (List.getElem?_eq_some_iff.mp ex).1
      have hf : M1.found o l a = c := by rw [← h2]; exact M1.found_here ex hx0
      have g1 : M1.greedy o (l :: w) a = (M1.greedy o w (c + 1)).map (c :: ·) := by
        show (if M1.found o l a = o.length then none else (M1.greedy o w (M1.found o l a + 1)).map (M1.found o l a :: ·)) = _
        rw [hf, if_neg (by omega)]
      have r := pl_for (W := W) ho w (c + 1) (ps ++ [c]) (.d (.int l)) (by omega) (by rw [List.length_append, List.length_singleton]; omega)
      have st : forGo (gtN 5) bPl ((l :: w).map .int) [.d W, .d (tupI o), .own (posD ps), .d (.int (a : Nat)), .d (.int ((o.length : Nat) - ((l :: w).length : Nat))), x] = forGo (gtN 5) bPl (w.map .int) [.d W, .d (tupI o), .own (posD (ps ++ [c])), .d (.int ((c + 1 : Nat) : Nat)), .d (.int ((o.length : Nat) - (w.length : Nat))), .d (.int l)] := by
        refine for_nx (f1 := [.d W, .d (tupI o), .own (posD ps), .d (.int (a : Nat)), .d (.int ((o.length : Nat) - ((l :: w).length : Nat))), .d (.int l)]) rfl ((st1 _).trans ((then_nx ((ifs_f ?_).trans rfl)).trans ((then_nx (app_eq rfl ?_ rfl)).trans ?_)))
        · simp only [Mo.bind_assoc, Mo.pure_bind, Mo.of_some, Mo.bad_bind, Mo.raise_bind, Mo.nox_pure, Mo.nox_bind, Mo.nox_nox, Mo.nox_bad, initF, argSl, List.map_cons, List.map_nil, List.length_cons, List.length_nil, Nat.reduceSub, Nat.reduceAdd, List.replicate_succ, List.replicate_zero, List.cons_append, List.nil_append, List.append_nil, List.getElem?_cons_zero, List.getElem?_cons_succ, List.set_cons_zero, List.set_cons_succ, slD, slP, slO, dThen, dSkip, dSet, dPar, dRet, dIfS, dV, dC, dNil, dCons, dTup, dLst, dAnd, dOr, dNot, dIf, dAndT, dOrT, dNotT, dB, asB, dOp, dCb, dIsi, dCall, dACons, dANil, dAPen, dSl, dP, dNoP, asI, dAsg, gtN, gtT, gtNs, dSeq, asSeq, dIt, dYes, dRev, dNeg, gNeg, if_true, if_false, reduceIte, reduceCtorEq, few_ok, Nat.reduceLeDiff, Nat.zero_le, gGt, t']
        · unfold posD
          rw [List.length_map, List.length_map]
          omega
        · have e1 : posD (ps ++ [c]) = posD ps ++ [.int (c : Nat)] := by simp [posD]
          have e2 : ((o.length : Nat) : Int) - ((l :: w).length : Nat) + 1 = (o.length : Nat) - (w.length : Nat) := by simp only [List.length_cons]; omega
          rw [e1, ← e2]
          simp only [Mo.bind_assoc, Mo.pure_bind, Mo.of_some, Mo.bad_bind, Mo.raise_bind, Mo.nox_pure, Mo.nox_bind, Mo.nox_nox, Mo.nox_bad, initF, argSl, List.map_cons, List.map_nil, List.length_cons, List.length_nil, Nat.reduceSub, Nat.reduceAdd, List.replicate_succ, List.replicate_zero, List.cons_append, List.nil_append, List.append_nil, List.getElem?_cons_zero, List.getElem?_cons_succ, List.set_cons_zero, List.set_cons_succ, slD, slP, slO, dThen, dSkip, dSet, dPar, dRet, dIfS, dV, dC, dNil, dCons, dTup, dLst, dAnd, dOr, dNot, dIf, dAndT, dOrT, dNotT, dB, asB, dOp, dCb, dIsi, dCall, dACons, dANil, dAPen, dSl, dP, dNoP, asI, dAsg, gtN, gtT, gtNs, dSeq, asSeq, dIt, dYes, dRev, dNeg, gNeg, if_true, if_false, reduceIte, reduceCtorEq, few_ok, Nat.reduceLeDiff, Nat.zero_le, dAug, gAddI]
          rfl
      rw [g1]
      cases e : M1.greedy o w (c + 1) with
      | none =>
        rw [e] at r
        exact st.trans r
      | some qs =>
        rw [e] at r
        obtain ⟨y, z, x', hr⟩ := r
        refine ⟨y, z, x', st.trans (hr.trans ?_)⟩
        rw [List.append_assoc]
        rfl
theorem place_eq {w o : List Int} (hw : w.length ≤ 600) (ho : o.length ≤ 600) : f_place_in [.d (tupI w), .d (tupI o)] = Mo.pure (plD w o) := by
  refine fn_pure ?_
  have r := pl_for (W := tupI w) ho w 0 [] .no (Nat.zero_le _) (by simpa using hw)
  have st : b_place_in (initF 6 [.d (tupI w), .d (tupI o)]) = (forGo (gtN 5) bPl (w.map .int) [.d (tupI w), .d (tupI o), .own (posD []), .d (.int ((0 : Nat) : Nat)), .d (.int ((o.length : Nat) - (w.length : Nat))), .no]).bind fun o => match o with
      | .nx f => (dFrz 2 (dRet (dCb gTupOf (dCons (dV 2) dNil)))) f
      | o => Mo.pure o := by
    refine (then_nx (f := [.d (tupI w), .d (tupI o), .own [], .no, .no, .no]) rfl).trans ((then_nx (f := [.d (tupI w), .d (tupI o), .own [], .d (.int 0), .no, .no]) rfl).trans ((then_nx (f := [.d (tupI w), .d (tupI o), .own [], .d (.int 0), .d (.int ((o.length : Nat) - (w.length : Nat))), .no]) ?_).trans rfl))
    unfold tupI
    simp only [Mo.bind_assoc, Mo.pure_bind, Mo.of_some, Mo.bad_bind, Mo.raise_bind, Mo.nox_pure, Mo.nox_bind, Mo.nox_nox, Mo.nox_bad, initF, argSl, List.map_cons, List.map_nil, List.length_cons, List.length_nil, Nat.reduceSub, Nat.reduceAdd, List.replicate_succ, List.replicate_zero, List.cons_append, List.nil_append, List.append_nil, List.getElem?_cons_zero, List.getElem?_cons_succ, List.set_cons_zero, List.set_cons_succ, slD, slP, slO, dThen, dSkip, dSet, dPar, dRet, dIfS, dV, dC, dNil, dCons, dTup, dLst, dAnd, dOr, dNot, dIf, dAndT, dOrT, dNotT, dB, asB, dOp, dCb, dIsi, dCall, dACons, dANil, dAPen, dSl, dP, dNoP, asI, dAsg, gtN, gtT, gtNs, dSeq, asSeq, dIt, dYes, dRev, dNeg, gNeg, if_true, if_false, reduceIte, reduceCtorEq, few_ok, Nat.reduceLeDiff, Nat.zero_le, gLen, gSub, List.length_map]
  rw [st]
  unfold plD
  cases e : M1.greedy o w 0 with
  | none =>
    rw [e] at r
    rw [show _ = _ from r]
    rfl
  | some qs =>
    rw [e] at r
    obtain ⟨y, z, x', hr⟩ := r
    rw [hr]
    rfl
def inB (w o : List Int) : Bool := (M1.greedy o w 0).isSome
theorem within_eq {w o : List Int} (hw : w.length ≤ 600) (ho : o.length ≤ 600) : f_is_within [.d (tupI w), .d (tupI o)] = Mo.pure (.bool (inB w o)) := by
  refine fn_pure ?_
  unfold b_is_within
  simp only [Mo.bind_assoc, Mo.pure_bind, Mo.of_some, Mo.bad_bind, Mo.raise_bind, Mo.nox_pure, Mo.nox_bind, Mo.nox_nox, Mo.nox_bad, initF, argSl, List.map_cons, List.map_nil, List.length_cons, List.length_nil, Nat.reduceSub, Nat.reduceAdd, List.replicate_succ, List.replicate_zero, List.cons_append, List.nil_append, List.append_nil, List.getElem?_cons_zero, List.getElem?_cons_succ, List.set_cons_zero, List.set_cons_succ, slD, slP, slO, dThen, dSkip, dSet, dPar, dRet, dIfS, dV, dC, dNil, dCons, dTup, dLst, dAnd, dOr, dNot, dIf, dAndT, dOrT, dNotT, dB, asB, dOp, dCb, dIsi, dCall, dACons, dANil, dAPen, dSl, dP, dNoP, asI, dAsg, gtN, gtT, gtNs, dSeq, asSeq, dIt, dYes, dRev, dNeg, gNeg, if_true, if_false, reduceIte, reduceCtorEq, few_ok, Nat.reduceLeDiff, Nat.zero_le, dNotN, place_eq hw ho]
  unfold plD inB
  cases M1.greedy o w 0 <;> rfl
end Rf

set_option maxRecDepth 100000
set_option maxHeartbeats 4000000
namespace Rf
open PySem PySem.Spec PyProof.Rows L2 Gd Dt Dl Ee Sd
/-! ### programs, lots: data with types -/
structure Lt where
  ps : List Int
  ws : List (List Int)
deriving DecidableEq
inductive Ac where
  | send (l c : Int)
  | take (l c : Int)
  | test (l : Int)
  | rest
deriving DecidableEq
structure St where
  fr : Int
  ac : Ac
  to : Int
deriving DecidableEq
structure Mc where
  pl : Int
  st : List St
structure Pg where
  ln : Int
  lt : Int
  ms : List Mc
def eWs (ws : List (List Int)) : PyData := .tuple (ws.map tupI)
def eL (l : Lt) : PyData := .tuple [tupI l.ps, eWs l.ws]
def eA : Ac → PyData
  | .send l c => .tuple [.str "send", .int l, .int c]
  | .take l c => .tuple [.str "take", .int l, .int c]
  | .test l => .tuple [.str "test", .int l]
  | .rest => .tuple [.str "rest"]
def eS (s : St) : PyData := .tuple [.int s.fr, eA s.ac, .int s.to]
def eM (m : Mc) : PyData := .tuple [.int m.pl, .tuple (m.st.map eS)]
def eP (p : Pg) : PyData := .tuple [.int p.ln, .int p.lt, .tuple (p.ms.map eM)]
/-! ### what is valid -/
def In (n i : Int) : Prop := 0 ≤ i ∧ i < n
def AOk (ln lt : Int) : Ac → Prop
  | .send l c => In ln l ∧ In lt c
  | .take l c => In ln l ∧ In lt c
  | .test l => In ln l
  | .rest => True
structure SOk (ln lt pl : Int) (s : St) : Prop where
  fr : In pl s.fr
  ac : AOk ln lt s.ac
  to : In pl s.to
structure MOk (ln lt : Int) (N : Nat) (m : Mc) : Prop where
  pl : 1 ≤ m.pl ∧ m.pl ≤ 5
  st : ∀ s ∈ m.st, SOk ln lt m.pl s
  few : m.st.length ≤ N
  up : Asc (m.st.map eS)
structure POk (N : Nat) (p : Pg) : Prop where
  ln : 1 ≤ p.ln ∧ p.ln ≤ 3
  lt : 1 ≤ p.lt ∧ p.lt ≤ 3
  ms : ∀ m ∈ p.ms, MOk p.ln p.lt N m
  ne : 1 ≤ p.ms.length
  few : p.ms.length ≤ 3
def WOk (lt : Int) (N : Nat) (w : List Int) : Prop := (∀ c ∈ w, In lt c) ∧ w.length ≤ N
def PsOk : List Mc → List Int → Prop
  | [], [] => True
  | m :: ms, i :: is => In m.pl i ∧ PsOk ms is
  | _, _ => False
structure LOk (p : Pg) (N : Nat) (l : Lt) : Prop where
  ps : PsOk p.ms l.ps
  wl : l.ws.length = p.ln.toNat
  ws : ∀ w ∈ l.ws, WOk p.lt N w
theorem PsOk.len : ∀ {ms : List Mc} {is : List Int}, PsOk ms is → is.length = ms.length
  | [], [], _ => rfl
  | _ :: ms, _ :: is, h => by simp only [List.length_cons, PsOk.len h.2]
theorem PsOk.at : ∀ {ms : List Mc} {is : List Int}, PsOk ms is → ∀ (k : Nat) (m : Mc) (i : Int), ms[k]? = some m → is[k]? = some i → In m.pl i
  | [], [], _, k, m, i, e, _ => by simp at e
  | m :: ms, i :: is, h, 0, m', i', e, e' => by
    simp only [List.getElem?_cons_zero, Option.some.injEq] at e e'
    subst e e'
    exact h.1
  | m :: ms, i :: is, h, k + 1, m', i', e, e' => PsOk.at h.2 k m' i' (by simpa using e) (by simpa using e')
theorem PsOk.set : ∀ {ms : List Mc} {is : List Int}, PsOk ms is → ∀ (k : Nat) (m : Mc) (i : Int), ms[k]? = some m → In m.pl i → PsOk ms (is.set k i)
  | [], [], _, k, m, i, e, _ => by simp at e
  | m :: ms, i :: is, h, 0, m', i', e, e' => by
    simp only [List.getElem?_cons_zero, Option.some.injEq] at e
    subst e
    exact ⟨e', h.2⟩
  | m :: ms, i :: is, h, k + 1, m', i', e, e' => ⟨h.1, PsOk.set h.2 k m' i' (by simpa using e) e'⟩
/-! ### lists by index -/
section
variable {α β : Type}
theorem atI_map (f : α → β) (xs : List α) (i : Int) : atI (xs.map f) i = (atI xs i).map f := by
  unfold atI
  rw [List.length_map]
  cases ixN xs.length i with
  | none => rfl
  | some k => simp
theorem atI_in {xs : List α} {i : Int} (h : In xs.length i) : ∃ x, atI xs i = some x ∧ xs[i.toNat]? = some x ∧ x ∈ xs := by
  have h1 : i.toNat < xs.length := by have := h.1; have := h.2; omega
  refine ⟨xs[i.toNat], atI_ok h.1 h.2, List.getElem?_eq_getElem h1, List.getElem_mem _⟩
theorem atI_get {xs : List α} {i : Int} {x : α} (h : In xs.length i) (e : xs[i.toNat]? = some x) : atI xs i = some x := by
  obtain ⟨y, e1, e2, _⟩ := atI_in h
  rw [e] at e2
  rw [e1, ← Option.some.inj e2]
theorem in_len {xs : List α} {i : Int} {n : Int} (e : (xs.length : Int) = n) (h : In n i) : In xs.length i := by rw [e]; exact h
end
theorem sixn (n : Nat) (i : Int) (h0 : 0 ≤ i) (h1 : i ≤ n) : HT.sIx n 0 (some i) = i.toNat ∧ HT.sIx n n (some i) = i.toNat := by
  have e : i = ((i.toNat : Nat) : Int) := by omega
  rw [e, HT.sIx_nat, HT.sIx_nat]
  constructor <;> rw [Nat.min_eq_left (by omega)] <;> omega
theorem cut_to {xs : List PyData} {i : Int} (h0 : 0 ≤ i) (h1 : i ≤ xs.length) : Dl.cutD xs none (some i) = xs.take i.toNat := by
  unfold Dl.cutD
  rw [HT.sIx_none, (sixn _ _ h0 h1).2, List.drop_zero, Nat.sub_zero]
theorem cut_from {xs : List PyData} {i : Int} (h0 : 0 ≤ i) (h1 : i ≤ xs.length) : Dl.cutD xs (some i) none = xs.drop i.toNat := by
  unfold Dl.cutD
  rw [HT.sIx_none, (sixn _ _ h0 h1).1]
  exact List.take_of_length_le (by rw [List.length_drop]; omega)
theorem cut_tail (xs : List PyData) : Dl.cutD xs (some 1) none = xs.drop 1 := by
  cases xs with
  | nil => rfl
  | cons x xs => exact cut_from (by decide) (by simp only [List.length_cons]; omega)
theorem cut_init (xs : List PyData) : Dl.cutD xs none (some (-1)) = xs.dropLast := by
  unfold Dl.cutD
  rw [HT.sIx_none, List.drop_zero, Nat.sub_zero, List.dropLast_eq_take]
  show xs.take (if (-1 : Int) < 0 then (-1 + (xs.length : Int)).toNat else min (-1 : Int).toNat xs.length) = _
  rw [if_pos (by decide)]
  congr 1
  omega
theorem cut_take (xs : List PyData) (k : Nat) : Dl.cutD xs none (some (k : Int)) = xs.take k := by
  unfold Dl.cutD
  rw [HT.sIx_none, HT.sIx_nat, List.drop_zero, Nat.sub_zero]
  by_cases h : k ≤ xs.length
  · rw [Nat.min_eq_left h]
  · rw [Nat.min_eq_right (by omega), List.take_of_length_le (Nat.le_refl _), List.take_of_length_le (by omega)]
theorem set_cut {xs : List PyData} {i : Int} {y : PyData} (h0 : 0 ≤ i) (h1 : i < xs.length) : xs.take i.toNat ++ [y] ++ xs.drop (i + 1).toNat = xs.set i.toNat y := by
  rw [List.set_eq_take_append_cons_drop, if_pos (by omega), show (i + 1).toNat = i.toNat + 1 from by omega]
  simp
/-! ### equal -/
theorem tupI_inj {a b : List Int} : tupI a = tupI b ↔ a = b := by
  unfold tupI
  rw [PyData.tuple.injEq]
  constructor
  · intro h
    exact (List.map_inj_right fun x y e => by cases e; rfl).mp h
  · intro h; rw [h]
theorem keyDs_iff : ∀ {xs : List PyData}, keyDs xs = true ↔ ∀ x ∈ xs, keyD x = true
  | [] => by simp [keyDs]
  | x :: xs => by simp [keyDs, keyDs_iff (xs := xs)]
theorem key_tupI (w : List Int) : keyD (tupI w) = true := by
  unfold tupI
  simp only [keyD, keyDs_iff]
  intro x hx
  obtain ⟨i, _, rfl⟩ := List.mem_map.mp hx
  rfl
theorem key_eWs (ws : List (List Int)) : keyD (eWs ws) = true := by
  unfold eWs
  simp only [keyD, keyDs_iff]
  intro x hx
  obtain ⟨i, _, rfl⟩ := List.mem_map.mp hx
  exact key_tupI i
theorem key_eL (l : Lt) : keyD (eL l) = true := by
  unfold eL
  simp only [keyD, keyDs, key_tupI, key_eWs, Bool.and_self]
theorem dep_tupI (w : List Int) : (tupI w).depth ≤ 1 := by
  unfold tupI
  simp only [PyData.depth]
  exact Nat.succ_le_succ (depths_iff.mpr fun x hx => by
    obtain ⟨i, _, rfl⟩ := List.mem_map.mp hx
    exact Nat.le_refl _)
theorem dep_eWs (ws : List (List Int)) : (eWs ws).depth ≤ 2 := by
  unfold eWs
  simp only [PyData.depth]
  exact Nat.succ_le_succ (depths_iff.mpr fun x hx => by
    obtain ⟨i, _, rfl⟩ := List.mem_map.mp hx
    exact dep_tupI i)
theorem dep_eL (l : Lt) : (eL l).depth ≤ 3 := by
  unfold eL
  simp only [PyData.depth]
  refine Nat.succ_le_succ (depths_iff.mpr fun x hx => ?_)
  rcases List.mem_cons.mp hx with rfl | hx
  · exact Nat.le_trans (dep_tupI _) (by decide)
  · rcases List.mem_singleton.mp hx with rfl
    exact dep_eWs _
theorem shaped_key {d : PyData} (k : keyD d = true) (h : d.depth ≤ 64) : SeqAt.shaped d = true := by
  unfold SeqAt.shaped
  rw [keyD_lay d k, Bool.true_and]
  exact decide_eq_true h
theorem eqv_dec {x y : PyData} (kx : keyD x = true) (ky : keyD y = true) {q : Bool} (h : q = true ↔ x = y) : PyData.eqv x y = q := by
  have := eqv_same kx ky
  cases e : PyData.eqv x y <;> cases q <;> simp_all
theorem gEq_tup {xs ys : List PyData} (kx : keyD (.tuple xs) = true) (ky : keyD (.tuple ys) = true) (dx : (PyData.tuple xs).depth ≤ 64) (dy : (PyData.tuple ys).depth ≤ 64) {q : Bool} (h : q = true ↔ PyData.tuple xs = .tuple ys) : gEq (.tuple xs) (.tuple ys) = some (.bool q) := by
  show (if SeqAt.shaped (.tuple xs) = true ∧ SeqAt.shaped (.tuple ys) = true then some (PyData.bool (PyData.eqv (.tuple xs) (.tuple ys))) else _) = _
  rw [if_pos ⟨shaped_key kx dx, shaped_key ky dy⟩, eqv_dec kx ky h]
theorem gNe_tup {xs ys : List PyData} (kx : keyD (.tuple xs) = true) (ky : keyD (.tuple ys) = true) (dx : (PyData.tuple xs).depth ≤ 64) (dy : (PyData.tuple ys).depth ≤ 64) {q : Bool} (h : q = true ↔ PyData.tuple xs = .tuple ys) : gNe (.tuple xs) (.tuple ys) = some (.bool (!q)) := by
  show (if SeqAt.shaped (.tuple xs) = true ∧ SeqAt.shaped (.tuple ys) = true then some (PyData.bool (!PyData.eqv (.tuple xs) (.tuple ys))) else none) = _
  rw [if_pos ⟨shaped_key kx dx, shaped_key ky dy⟩, eqv_dec kx ky h]
theorem gEq_tupI (a b : List Int) : gEq (tupI a) (tupI b) = some (.bool (decide (a = b))) :=
  gEq_tup (key_tupI a) (key_tupI b) (Nat.le_trans (dep_tupI a) (by decide)) (Nat.le_trans (dep_tupI b) (by decide)) (decide_eq_true_iff.trans tupI_inj.symm)
theorem gNe_tupI (a b : List Int) : gNe (tupI a) (tupI b) = some (.bool (!decide (a = b))) :=
  gNe_tup (key_tupI a) (key_tupI b) (Nat.le_trans (dep_tupI a) (by decide)) (Nat.le_trans (dep_tupI b) (by decide)) (decide_eq_true_iff.trans tupI_inj.symm)
theorem eWs_inj {a b : List (List Int)} : eWs a = eWs b ↔ a = b := by
  unfold eWs
  rw [PyData.tuple.injEq]
  constructor
  · intro h
    exact (List.map_inj_right fun x y e => tupI_inj.mp e).mp h
  · intro h; rw [h]
theorem eL_inj {a b : Lt} : eL a = eL b ↔ a = b := by
  constructor
  · intro h
    unfold eL at h
    have h1 := tupI_inj.mp (List.cons.inj (PyData.tuple.inj h)).1
    have h2 := eWs_inj.mp (List.cons.inj (List.cons.inj (PyData.tuple.inj h)).2).1
    cases a; cases b
    simp only at h1 h2
    rw [h1, h2]
  · intro h; rw [h]
theorem gEq_eL (a b : Lt) : gEq (eL a) (eL b) = some (.bool (decide (a = b))) :=
  gEq_tup (key_eL a) (key_eL b) (Nat.le_trans (dep_eL a) (by decide)) (Nat.le_trans (dep_eL b) (by decide)) (decide_eq_true_iff.trans eL_inj.symm)
theorem gNe_eL (a b : Lt) : gNe (eL a) (eL b) = some (.bool (!decide (a = b))) :=
  gNe_tup (key_eL a) (key_eL b) (Nat.le_trans (dep_eL a) (by decide)) (Nat.le_trans (dep_eL b) (by decide)) (decide_eq_true_iff.trans eL_inj.symm)
theorem gNe_str {x y : Str} : gNe (.str x) (.str y) = some (.bool (!decide (x = y))) := rfl
theorem gNe_nilT {a : List Int} : gNe (tupI a) (.tuple []) = some (.bool (!a.isEmpty)) := by
  have := gNe_tupI a []
  cases a <;> exact this
theorem gEq_nilT {a : List Int} : gEq (tupI a) (.tuple []) = some (.bool a.isEmpty) := by
  have := gEq_tupI a []
  cases a <;> exact this
end Rf

set_option maxRecDepth 100000
set_option maxHeartbeats 4000000
namespace Rf
open PySem PySem.Spec PyProof.Rows L2 Gd Dt Dl Ee Sd
theorem at0 {a : PyData} {r : List PyData} : gIx (.tuple (a :: r)) (.int 0) = some a := by
  show atI (a :: r) 0 = _
  exact atI_get ⟨by decide, by simp only [List.length_cons]; omega⟩ rfl
theorem at1 {a b : PyData} {r : List PyData} : gIx (.tuple (a :: b :: r)) (.int 1) = some b := by
  show atI (a :: b :: r) 1 = _
  exact atI_get ⟨by decide, by simp only [List.length_cons]; omega⟩ rfl
theorem at2 {a b c : PyData} {r : List PyData} : gIx (.tuple (a :: b :: c :: r)) (.int 2) = some c := by
  show atI (a :: b :: c :: r) 2 = _
  exact atI_get ⟨by decide, by simp only [List.length_cons]; omega⟩ rfl
/-- row[:at] + (part,) + row[at + 1:] -/
theorem exch_eq {xs : List PyData} {i : Int} {y : PyData} (h : In xs.length i) (hl : xs.length ≤ 1000) : f_exchanged [.d (.tuple xs), .d (.int i), .d y] = Mo.pure (.tuple (xs.set i.toNat y)) := by
  refine fn_pure ?_
  have h0 := h.1
  have h1 := h.2
  have a1 : gAdd (.tuple (xs.take i.toNat)) (.tuple [y]) = some (.tuple (xs.take i.toNat ++ [y])) := if_pos (by simp only [List.length_take, List.length_cons, List.length_nil]; omega)
  have a2 : gAdd (.tuple (xs.take i.toNat ++ [y])) (.tuple (xs.drop (i + 1).toNat)) = some (.tuple (xs.take i.toNat ++ [y] ++ xs.drop (i + 1).toNat)) := if_pos (by simp only [List.length_append, List.length_take, List.length_drop, List.length_cons, List.length_nil]; omega)
  have a3 : gAdd (.int i) (.int 1) = some (.int (i + 1)) := rfl
  unfold b_exchanged
  simp only [Mo.bind_assoc, Mo.pure_bind, Mo.of_some, Mo.bad_bind, Mo.raise_bind, Mo.nox_pure, Mo.nox_bind, Mo.nox_nox, Mo.nox_bad, initF, argSl, List.map_cons, List.map_nil, List.length_cons, List.length_nil, Nat.reduceSub, Nat.reduceAdd, List.replicate_succ, List.replicate_zero, List.cons_append, List.nil_append, List.append_nil, List.getElem?_cons_zero, List.getElem?_cons_succ, List.set_cons_zero, List.set_cons_succ, slD, slP, slO, dThen, dSkip, dSet, dPar, dRet, dIfS, dV, dC, dNil, dCons, dTup, dLst, dAnd, dOr, dNot, dIf, dAndT, dOrT, dNotT, dB, asB, dOp, dCb, dIsi, dCall, dACons, dANil, dAPen, dSl, dP, dNoP, asI, dAsg, gtN, gtT, gtNs, dSeq, asSeq, dIt, dYes, dRev, dNeg, gNeg, if_true, if_false, reduceIte, reduceCtorEq, few_ok, Nat.reduceLeDiff, Nat.zero_le, gSl, cut_to h0 (by omega : i ≤ xs.length), cut_from (by omega : 0 ≤ i + 1) (by omega : i + 1 ≤ xs.length), a1, a2, a3, set_cut h0 h1]
theorem lat_eq {xs : List PyData} {i : Int} {y : PyData} (h : In xs.length i) (hl : xs.length ≤ 1000) : f_law_at [.d (.tuple xs), .d (.int i), .d y] = Mo.pure (.tuple (xs.set i.toNat y)) := exch_eq h hl
theorem map_set' {α β : Type} (f : α → β) (xs : List α) (n : Nat) (y : α) : (xs.map f).set n (f y) = (xs.set n y).map f := List.map_set.symm
theorem exch_I {ps : List Int} {i y : Int} (h : In ps.length i) (hl : ps.length ≤ 1000) : f_exchanged [.d (tupI ps), .d (.int i), .d (.int y)] = Mo.pure (tupI (ps.set i.toNat y)) := by
  unfold tupI
  rw [exch_eq (by rw [List.length_map]; exact h) (by rw [List.length_map]; exact hl), map_set']
theorem exch_W {ws : List (List Int)} {i : Int} {w : List Int} (h : In ws.length i) (hl : ws.length ≤ 1000) : f_exchanged [.d (eWs ws), .d (.int i), .d (tupI w)] = Mo.pure (eWs (ws.set i.toNat w)) := by
  unfold eWs
  rw [exch_eq (by rw [List.length_map]; exact h) (by rw [List.length_map]; exact hl), map_set']
theorem lat_I {ps : List Int} {i y : Int} (h : In ps.length i) (hl : ps.length ≤ 1000) : f_law_at [.d (tupI ps), .d (.int i), .d (.int y)] = Mo.pure (tupI (ps.set i.toNat y)) := exch_I h hl
/-! ### steps -/
structure IsSt (p : Pg) (m i : Int) (c : Mc) (s : St) : Prop where
  m0 : In p.ms.length m
  em : p.ms[m.toNat]? = some c
  i0 : In c.st.length i
  ei : c.st[i.toNat]? = some s
section
variable {p : Pg} {m i : Int} {c : Mc} {s : St}
theorem IsSt.im (h : IsSt p m i c s) : gIx (.tuple (p.ms.map eM)) (.int m) = some (eM c) := by
  show atI (p.ms.map eM) m = _
  rw [atI_map, atI_get h.m0 h.em]
  rfl
theorem IsSt.is (h : IsSt p m i c s) : gIx (.tuple (c.st.map eS)) (.int i) = some (eS s) := by
  show atI (c.st.map eS) i = _
  rw [atI_map, atI_get h.i0 h.ei]
  rfl
theorem IsSt.sok {N : Nat} (h : IsSt p m i c s) (k : POk N p) : SOk p.ln p.lt c.pl s := (k.ms c (List.mem_of_getElem? h.em)).st s (List.mem_of_getElem? h.ei)
theorem step_at_eq (h : IsSt p m i c s) : f_step_at [.d (eP p), .d (.int m), .d (.int i)] = Mo.pure (eS s) := by
  refine fn_pure ?_
  unfold b_step_at
  simp only [Mo.bind_assoc, Mo.pure_bind, Mo.of_some, Mo.bad_bind, Mo.raise_bind, Mo.nox_pure, Mo.nox_bind, Mo.nox_nox, Mo.nox_bad, initF, argSl, List.map_cons, List.map_nil, List.length_cons, List.length_nil, Nat.reduceSub, Nat.reduceAdd, List.replicate_succ, List.replicate_zero, List.cons_append, List.nil_append, List.append_nil, List.getElem?_cons_zero, List.getElem?_cons_succ, List.set_cons_zero, List.set_cons_succ, slD, slP, slO, dThen, dSkip, dSet, dPar, dRet, dIfS, dV, dC, dNil, dCons, dTup, dLst, dAnd, dOr, dNot, dIf, dAndT, dOrT, dNotT, dB, asB, dOp, dCb, dIsi, dCall, dACons, dANil, dAPen, dSl, dP, dNoP, asI, dAsg, gtN, gtT, gtNs, dSeq, asSeq, dIt, dYes, dRev, dNeg, gNeg, if_true, if_false, reduceIte, reduceCtorEq, few_ok, Nat.reduceLeDiff, Nat.zero_le, eP, h.im]
  simp only [Mo.bind_assoc, Mo.pure_bind, Mo.of_some, Mo.bad_bind, Mo.raise_bind, Mo.nox_pure, Mo.nox_bind, Mo.nox_nox, Mo.nox_bad, initF, argSl, List.map_cons, List.map_nil, List.length_cons, List.length_nil, Nat.reduceSub, Nat.reduceAdd, List.replicate_succ, List.replicate_zero, List.cons_append, List.nil_append, List.append_nil, List.getElem?_cons_zero, List.getElem?_cons_succ, List.set_cons_zero, List.set_cons_succ, slD, slP, slO, dThen, dSkip, dSet, dPar, dRet, dIfS, dV, dC, dNil, dCons, dTup, dLst, dAnd, dOr, dNot, dIf, dAndT, dOrT, dNotT, dB, asB, dOp, dCb, dIsi, dCall, dACons, dANil, dAPen, dSl, dP, dNoP, asI, dAsg, gtN, gtT, gtNs, dSeq, asSeq, dIt, dYes, dRev, dNeg, gNeg, if_true, if_false, reduceIte, reduceCtorEq, few_ok, Nat.reduceLeDiff, Nat.zero_le, eM, h.is]
end
/-! ### one step back -/
def wB (ws : List (List Int)) : Ac → Option (List (List Int))
  | .send l c => match ws[l.toNat]? with
    | some w => match w.getLast? with
      | some d => if d ≤ c then some (ws.set l.toNat w.dropLast) else some ws
      | none => some ws
    | none => none
  | .take l c => match ws[l.toNat]? with
    | some w => some (ws.set l.toNat (c :: w))
    | none => none
  | .test l => match ws[l.toNat]? with
    | some w => if w = [] then some ws else none
    | none => none
  | .rest => some ws
def lB (s : St) (m : Int) (l : Lt) : Option Lt := match l.ps[m.toNat]? with
  | some pl => if pl = s.to then (wB l.ws s.ac).map fun ws => ⟨l.ps.set m.toNat s.fr, ws⟩ else none
  | none => none
theorem ix_w {ws : List (List Int)} {l : Int} {w : List Int} (h : In ws.length l) (e : ws[l.toNat]? = some w) : gIx (eWs ws) (.int l) = some (tupI w) := by
  show atI (ws.map tupI) l = _
  rw [atI_map, atI_get h e]
  rfl
theorem ix_p {ps : List Int} {m : Int} {x : Int} (h : In ps.length m) (e : ps[m.toNat]? = some x) : gIx (tupI ps) (.int m) = some (.int x) := by
  show atI (ps.map PyData.int) m = _
  rw [atI_map, atI_get h e]
  rfl
theorem get_in {α : Type} {xs : List α} {i : Int} (h : In xs.length i) : ∃ x, xs[i.toNat]? = some x := by
  obtain ⟨x, _, e, _⟩ := atI_in h
  exact ⟨x, e⟩
theorem ix_last {w : List Int} {d : Int} (h : w.getLast? = some d) : gIx (tupI w) (.int (-1)) = some (.int d) := by
  show atI (w.map PyData.int) (-1) = _
  rw [atI_map]
  unfold atI ixN
  have hl : 0 < w.length := by
    cases w with
    | nil => cases h
    | cons a r => simp
  rw [if_neg (by decide), if_pos (by omega)]
  rw [List.getLast?_eq_getElem?] at h
  show Option.map _ (w[(-1 + (w.length : Int)).toNat]?) = _
  rw [show (-1 + (w.length : Int)).toNat = w.length - 1 from by omega, h]
  rfl
theorem gNe_s {x y : Str} {q : Bool} (h : decide (x = y) = q) : gNe (.str x) (.str y) = some (.bool (!q)) := by rw [gNe_str, h]
theorem sl_init (w : List Int) : gSl (tupI w) none (some (-1)) = some (tupI w.dropLast) := by
  show some (PyData.tuple (Dl.cutD (w.map .int) none (some (-1)))) = _
  rw [cut_init, ← List.map_dropLast]
  rfl
theorem sl_tail (w : List Int) : gSl (tupI w) (some 1) none = some (tupI (w.drop 1)) := by
  show some (PyData.tuple (Dl.cutD (w.map .int) (some 1) none)) = _
  rw [cut_tail, ← List.map_drop]
  rfl
theorem add_front {w : List Int} {c : Int} (h : w.length ≤ 90000) : gAdd (.tuple [.int c]) (tupI w) = some (tupI (c :: w)) := by
  unfold tupI
  exact if_pos (by simp only [List.length_map, List.length_cons, List.length_nil]; omega)
theorem add_back {w : List Int} {c : Int} (h : w.length ≤ 90000) : gAdd (tupI w) (.tuple [.int c]) = some (tupI (w ++ [c])) := by
  unfold tupI
  rw [List.map_append]
  exact if_pos (by simp only [List.length_map, List.length_cons, List.length_nil]; omega)
theorem len_tupI (w : List Int) : gLen [tupI w] = some (.int (w.length : Nat)) := by
  show some (PyData.int ((w.map PyData.int).length : Nat)) = _
  rw [List.length_map]
theorem last_none {w : List Int} (h : w.getLast? = none) : w = [] := List.getLast?_eq_none_iff.mp h
section
variable {ws : List (List Int)}
theorem before_eq {a : Ac} {ln lt : Int} (ha : AOk ln lt a) (hw : (ws.length : Int) = ln) (hl : ws.length ≤ 3) (hn : ∀ w ∈ ws, w.length ≤ 1000) {r : List (List Int)} (e : wB ws a = some r) : f_words_before [.d (eWs ws), .d (eA a)] = Mo.pure (eWs r) := by
  refine fn_pure ?_
  unfold b_words_before
  cases a with
  | send l c =>
    have h : In ws.length l := by rw [hw]; exact ha.1
    obtain ⟨w, ew⟩ := get_in h
    have e1 := gEq_str (x := .str "send") (z := "take") rfl
    have e2 := gEq_str (x := .str "send") (z := "send") rfl
    rw [show isTxt "take" (.str "send") = false from by decide +kernel] at e1
    rw [show isTxt "send" (.str "send") = true from by decide +kernel] at e2
    simp only [Mo.bind_assoc, Mo.pure_bind, Mo.of_some, Mo.bad_bind, Mo.raise_bind, Mo.nox_pure, Mo.nox_bind, Mo.nox_nox, Mo.nox_bad, initF, argSl, List.map_cons, List.map_nil, List.length_cons, List.length_nil, Nat.reduceSub, Nat.reduceAdd, List.replicate_succ, List.replicate_zero, List.cons_append, List.nil_append, List.append_nil, List.getElem?_cons_zero, List.getElem?_cons_succ, List.set_cons_zero, List.set_cons_succ, slD, slP, slO, dThen, dSkip, dSet, dPar, dRet, dIfS, dV, dC, dNil, dCons, dTup, dLst, dAnd, dOr, dNot, dIf, dAndT, dOrT, dNotT, dB, asB, dOp, dCb, dIsi, dCall, dACons, dANil, dAPen, dSl, dP, dNoP, asI, dAsg, gtN, gtT, gtNs, dSeq, asSeq, dIt, dYes, dRev, dNeg, gNeg, if_true, if_false, reduceIte, reduceCtorEq, few_ok, Nat.reduceLeDiff, Nat.zero_le, eA, at0, e1, e2, ix_w h ew, len_tupI, gGt]
    simp only [wB, ew] at e
    cases z : w.getLast? with
    | none =>
      rw [z] at e
      cases e
      have := last_none z
      subst this
      simp only [Mo.bind_assoc, Mo.pure_bind, Mo.of_some, Mo.bad_bind, Mo.raise_bind, Mo.nox_pure, Mo.nox_bind, Mo.nox_nox, Mo.nox_bad, initF, argSl, List.map_cons, List.map_nil, List.length_cons, List.length_nil, Nat.reduceSub, Nat.reduceAdd, List.replicate_succ, List.replicate_zero, List.cons_append, List.nil_append, List.append_nil, List.getElem?_cons_zero, List.getElem?_cons_succ, List.set_cons_zero, List.set_cons_succ, slD, slP, slO, dThen, dSkip, dSet, dPar, dRet, dIfS, dV, dC, dNil, dCons, dTup, dLst, dAnd, dOr, dNot, dIf, dAndT, dOrT, dNotT, dB, asB, dOp, dCb, dIsi, dCall, dACons, dANil, dAPen, dSl, dP, dNoP, asI, dAsg, gtN, gtT, gtNs, dSeq, asSeq, dIt, dYes, dRev, dNeg, gNeg, if_true, if_false, reduceIte, reduceCtorEq, few_ok, Nat.reduceLeDiff, Nat.zero_le, List.length_nil, show decide ((0 : Int) < ((0 : Nat) : Int)) = false from rfl]
    | some d =>
      have hne : decide ((0 : Int) < (w.length : Nat)) = true := by
        refine decide_eq_true ?_
        cases w with
        | nil => cases z
        | cons x y => simp only [List.length_cons]; omega
      rw [z] at e
      simp only at e
      cases q : decide (d ≤ c) with
      | true =>
        rw [if_pos (of_decide_eq_true q)] at e
        cases e
        simp only [Mo.bind_assoc, Mo.pure_bind, Mo.of_some, Mo.bad_bind, Mo.raise_bind, Mo.nox_pure, Mo.nox_bind, Mo.nox_nox, Mo.nox_bad, initF, argSl, List.map_cons, List.map_nil, List.length_cons, List.length_nil, Nat.reduceSub, Nat.reduceAdd, List.replicate_succ, List.replicate_zero, List.cons_append, List.nil_append, List.append_nil, List.getElem?_cons_zero, List.getElem?_cons_succ, List.set_cons_zero, List.set_cons_succ, slD, slP, slO, dThen, dSkip, dSet, dPar, dRet, dIfS, dV, dC, dNil, dCons, dTup, dLst, dAnd, dOr, dNot, dIf, dAndT, dOrT, dNotT, dB, asB, dOp, dCb, dIsi, dCall, dACons, dANil, dAPen, dSl, dP, dNoP, asI, dAsg, gtN, gtT, gtNs, dSeq, asSeq, dIt, dYes, dRev, dNeg, gNeg, if_true, if_false, reduceIte, reduceCtorEq, few_ok, Nat.reduceLeDiff, Nat.zero_le, hne, ix_last z, gLe, q, sl_init, exch_W h (by omega)]
      | false =>
        rw [if_neg (of_decide_eq_false q)] at e
        cases e
        simp only [Mo.bind_assoc, Mo.pure_bind, Mo.of_some, Mo.bad_bind, Mo.raise_bind, Mo.nox_pure, Mo.nox_bind, Mo.nox_nox, Mo.nox_bad, initF, argSl, List.map_cons, List.map_nil, List.length_cons, List.length_nil, Nat.reduceSub, Nat.reduceAdd, List.replicate_succ, List.replicate_zero, List.cons_append, List.nil_append, List.append_nil, List.getElem?_cons_zero, List.getElem?_cons_succ, List.set_cons_zero, List.set_cons_succ, slD, slP, slO, dThen, dSkip, dSet, dPar, dRet, dIfS, dV, dC, dNil, dCons, dTup, dLst, dAnd, dOr, dNot, dIf, dAndT, dOrT, dNotT, dB, asB, dOp, dCb, dIsi, dCall, dACons, dANil, dAPen, dSl, dP, dNoP, asI, dAsg, gtN, gtT, gtNs, dSeq, asSeq, dIt, dYes, dRev, dNeg, gNeg, if_true, if_false, reduceIte, reduceCtorEq, few_ok, Nat.reduceLeDiff, Nat.zero_le, hne, ix_last z, gLe, q]
  | take l c =>
    have h : In ws.length l := by rw [hw]; exact ha.1
    obtain ⟨w, ew⟩ := get_in h
    have e1 := gEq_str (x := .str "take") (z := "take") rfl
    rw [show isTxt "take" (.str "take") = true from by decide +kernel] at e1
    simp only [wB, ew] at e
    cases e
    have := hn w (List.mem_of_getElem? ew)
    simp only [Mo.bind_assoc, Mo.pure_bind, Mo.of_some, Mo.bad_bind, Mo.raise_bind, Mo.nox_pure, Mo.nox_bind, Mo.nox_nox, Mo.nox_bad, initF, argSl, List.map_cons, List.map_nil, List.length_cons, List.length_nil, Nat.reduceSub, Nat.reduceAdd, List.replicate_succ, List.replicate_zero, List.cons_append, List.nil_append, List.append_nil, List.getElem?_cons_zero, List.getElem?_cons_succ, List.set_cons_zero, List.set_cons_succ, slD, slP, slO, dThen, dSkip, dSet, dPar, dRet, dIfS, dV, dC, dNil, dCons, dTup, dLst, dAnd, dOr, dNot, dIf, dAndT, dOrT, dNotT, dB, asB, dOp, dCb, dIsi, dCall, dACons, dANil, dAPen, dSl, dP, dNoP, asI, dAsg, gtN, gtT, gtNs, dSeq, asSeq, dIt, dYes, dRev, dNeg, gNeg, if_true, if_false, reduceIte, reduceCtorEq, few_ok, Nat.reduceLeDiff, Nat.zero_le, eA, at0, e1, ix_w h ew, add_front (by omega : w.length ≤ 90000), exch_W h (by omega)]
  | test l =>
    have h : In ws.length l := by rw [hw]; exact ha
    obtain ⟨w, ew⟩ := get_in h
    have e1 := gEq_str (x := .str "test") (z := "take") rfl
    have e2 := gEq_str (x := .str "test") (z := "send") rfl
    rw [show isTxt "take" (.str "test") = false from by decide +kernel] at e1
    rw [show isTxt "send" (.str "test") = false from by decide +kernel] at e2
    simp only [wB, ew] at e
    split at e
    · cases e
      simp only [Mo.bind_assoc, Mo.pure_bind, Mo.of_some, Mo.bad_bind, Mo.raise_bind, Mo.nox_pure, Mo.nox_bind, Mo.nox_nox, Mo.nox_bad, initF, argSl, List.map_cons, List.map_nil, List.length_cons, List.length_nil, Nat.reduceSub, Nat.reduceAdd, List.replicate_succ, List.replicate_zero, List.cons_append, List.nil_append, List.append_nil, List.getElem?_cons_zero, List.getElem?_cons_succ, List.set_cons_zero, List.set_cons_succ, slD, slP, slO, dThen, dSkip, dSet, dPar, dRet, dIfS, dV, dC, dNil, dCons, dTup, dLst, dAnd, dOr, dNot, dIf, dAndT, dOrT, dNotT, dB, asB, dOp, dCb, dIsi, dCall, dACons, dANil, dAPen, dSl, dP, dNoP, asI, dAsg, gtN, gtT, gtNs, dSeq, asSeq, dIt, dYes, dRev, dNeg, gNeg, if_true, if_false, reduceIte, reduceCtorEq, few_ok, Nat.reduceLeDiff, Nat.zero_le, eA, at0, e1, e2]
    · cases e
  | rest =>
    have e1 := gEq_str (x := .str "rest") (z := "take") rfl
    have e2 := gEq_str (x := .str "rest") (z := "send") rfl
    rw [show isTxt "take" (.str "rest") = false from by decide +kernel] at e1
    rw [show isTxt "send" (.str "rest") = false from by decide +kernel] at e2
    cases e
    simp only [Mo.bind_assoc, Mo.pure_bind, Mo.of_some, Mo.bad_bind, Mo.raise_bind, Mo.nox_pure, Mo.nox_bind, Mo.nox_nox, Mo.nox_bad, initF, argSl, List.map_cons, List.map_nil, List.length_cons, List.length_nil, Nat.reduceSub, Nat.reduceAdd, List.replicate_succ, List.replicate_zero, List.cons_append, List.nil_append, List.append_nil, List.getElem?_cons_zero, List.getElem?_cons_succ, List.set_cons_zero, List.set_cons_succ, slD, slP, slO, dThen, dSkip, dSet, dPar, dRet, dIfS, dV, dC, dNil, dCons, dTup, dLst, dAnd, dOr, dNot, dIf, dAndT, dOrT, dNotT, dB, asB, dOp, dCb, dIsi, dCall, dACons, dANil, dAPen, dSl, dP, dNoP, asI, dAsg, gtN, gtT, gtNs, dSeq, asSeq, dIt, dYes, dRev, dNeg, gNeg, if_true, if_false, reduceIte, reduceCtorEq, few_ok, Nat.reduceLeDiff, Nat.zero_le, eA, at0, e1, e2]
theorem can_end_eq {a : Ac} {ln lt : Int} (ha : AOk ln lt a) (hw : (ws.length : Int) = ln) : f_can_end [.d (eWs ws), .d (eA a)] = Mo.pure (.bool (wB ws a).isSome) := by
  refine fn_pure ?_
  unfold b_can_end
  cases a with
  | send l c =>
    have h : In ws.length l := by rw [hw]; exact ha.1
    obtain ⟨w, ew⟩ := get_in h
    have e1 : gNe (.str "send") (.str "test") = some (.bool true) := gNe_s (q := false) (by decide +kernel)
    have : (wB ws (.send l c)).isSome = true := by
      simp only [wB, ew]
      split
      · split <;> rfl
      · rfl
    simp only [Mo.bind_assoc, Mo.pure_bind, Mo.of_some, Mo.bad_bind, Mo.raise_bind, Mo.nox_pure, Mo.nox_bind, Mo.nox_nox, Mo.nox_bad, initF, argSl, List.map_cons, List.map_nil, List.length_cons, List.length_nil, Nat.reduceSub, Nat.reduceAdd, List.replicate_succ, List.replicate_zero, List.cons_append, List.nil_append, List.append_nil, List.getElem?_cons_zero, List.getElem?_cons_succ, List.set_cons_zero, List.set_cons_succ, slD, slP, slO, dThen, dSkip, dSet, dPar, dRet, dIfS, dV, dC, dNil, dCons, dTup, dLst, dAnd, dOr, dNot, dIf, dAndT, dOrT, dNotT, dB, asB, dOp, dCb, dIsi, dCall, dACons, dANil, dAPen, dSl, dP, dNoP, asI, dAsg, gtN, gtT, gtNs, dSeq, asSeq, dIt, dYes, dRev, dNeg, gNeg, if_true, if_false, reduceIte, reduceCtorEq, few_ok, Nat.reduceLeDiff, Nat.zero_le, eA, at0, e1, this]
  | take l c =>
    have h : In ws.length l := by rw [hw]; exact ha.1
    obtain ⟨w, ew⟩ := get_in h
    have e1 : gNe (.str "take") (.str "test") = some (.bool true) := gNe_s (q := false) (by decide +kernel)
    simp only [Mo.bind_assoc, Mo.pure_bind, Mo.of_some, Mo.bad_bind, Mo.raise_bind, Mo.nox_pure, Mo.nox_bind, Mo.nox_nox, Mo.nox_bad, initF, argSl, List.map_cons, List.map_nil, List.length_cons, List.length_nil, Nat.reduceSub, Nat.reduceAdd, List.replicate_succ, List.replicate_zero, List.cons_append, List.nil_append, List.append_nil, List.getElem?_cons_zero, List.getElem?_cons_succ, List.set_cons_zero, List.set_cons_succ, slD, slP, slO, dThen, dSkip, dSet, dPar, dRet, dIfS, dV, dC, dNil, dCons, dTup, dLst, dAnd, dOr, dNot, dIf, dAndT, dOrT, dNotT, dB, asB, dOp, dCb, dIsi, dCall, dACons, dANil, dAPen, dSl, dP, dNoP, asI, dAsg, gtN, gtT, gtNs, dSeq, asSeq, dIt, dYes, dRev, dNeg, gNeg, if_true, if_false, reduceIte, reduceCtorEq, few_ok, Nat.reduceLeDiff, Nat.zero_le, eA, at0, e1, wB, ew, Option.isSome_some]
  | test l =>
    have h : In ws.length l := by rw [hw]; exact ha
    obtain ⟨w, ew⟩ := get_in h
    have e1 : gNe (.str "test") (.str "test") = some (.bool false) := gNe_s (q := true) (by decide +kernel)
    have : (wB ws (.test l)).isSome = w.isEmpty := by
      simp only [wB, ew]
      cases w <;> rfl
    simp only [Mo.bind_assoc, Mo.pure_bind, Mo.of_some, Mo.bad_bind, Mo.raise_bind, Mo.nox_pure, Mo.nox_bind, Mo.nox_nox, Mo.nox_bad, initF, argSl, List.map_cons, List.map_nil, List.length_cons, List.length_nil, Nat.reduceSub, Nat.reduceAdd, List.replicate_succ, List.replicate_zero, List.cons_append, List.nil_append, List.append_nil, List.getElem?_cons_zero, List.getElem?_cons_succ, List.set_cons_zero, List.set_cons_succ, slD, slP, slO, dThen, dSkip, dSet, dPar, dRet, dIfS, dV, dC, dNil, dCons, dTup, dLst, dAnd, dOr, dNot, dIf, dAndT, dOrT, dNotT, dB, asB, dOp, dCb, dIsi, dCall, dACons, dANil, dAPen, dSl, dP, dNoP, asI, dAsg, gtN, gtT, gtNs, dSeq, asSeq, dIt, dYes, dRev, dNeg, gNeg, if_true, if_false, reduceIte, reduceCtorEq, few_ok, Nat.reduceLeDiff, Nat.zero_le, eA, at0, at1, e1, ix_w h ew, gEq_nilT, this]
  | rest =>
    have e1 : gNe (.str "rest") (.str "test") = some (.bool true) := gNe_s (q := false) (by decide +kernel)
    simp only [Mo.bind_assoc, Mo.pure_bind, Mo.of_some, Mo.bad_bind, Mo.raise_bind, Mo.nox_pure, Mo.nox_bind, Mo.nox_nox, Mo.nox_bad, initF, argSl, List.map_cons, List.map_nil, List.length_cons, List.length_nil, Nat.reduceSub, Nat.reduceAdd, List.replicate_succ, List.replicate_zero, List.cons_append, List.nil_append, List.append_nil, List.getElem?_cons_zero, List.getElem?_cons_succ, List.set_cons_zero, List.set_cons_succ, slD, slP, slO, dThen, dSkip, dSet, dPar, dRet, dIfS, dV, dC, dNil, dCons, dTup, dLst, dAnd, dOr, dNot, dIf, dAndT, dOrT, dNotT, dB, asB, dOp, dCb, dIsi, dCall, dACons, dANil, dAPen, dSl, dP, dNoP, asI, dAsg, gtN, gtT, gtNs, dSeq, asSeq, dIt, dYes, dRev, dNeg, gNeg, if_true, if_false, reduceIte, reduceCtorEq, few_ok, Nat.reduceLeDiff, Nat.zero_le, eA, at0, e1, wB, Option.isSome_some]
end
end Rf

set_option maxRecDepth 100000
set_option maxHeartbeats 4000000
namespace Rf
open PySem PySem.Spec PyProof.Rows L2 Gd Dt Dl Ee Sd
/-! ### loops and comprehensions, by equations -/
theorem lc_map {α : Type} {g : Gt} {t : DT} {e : DE} {fm : Fm} {en : α → PyData} {p : α → Bool} {h : α → PyData} : ∀ (xs : List α), (∀ x ∈ xs, ∃ f1, g (en x) fm = some f1 ∧ t f1 = Mo.pure (p x) ∧ (p x = true → e f1 = Mo.pure (h x))) → lcGo g t e fm (xs.map en) = Mo.pure ((xs.filter p).map h)
  | [], _ => rfl
  | x :: xs, k => by
    obtain ⟨f1, e1, et, ee⟩ := k x List.mem_cons_self
    have r := lc_map xs fun y hy => k y (List.mem_cons_of_mem _ hy)
    show lcGo g t e fm (en x :: xs.map en) = _
    unfold lcGo
    rw [e1, Mo.of_some, Mo.pure_bind, et, Mo.nox_pure, Mo.pure_bind]
    cases z : p x with
    | false =>
      simp only [List.filter_cons, z, Bool.false_eq_true, if_false]
      exact r
    | true =>
      simp only [List.filter_cons, z, if_true, List.map_cons, ee z, Mo.nox_pure, Mo.pure_bind, r]
theorem lc_mapA {α : Type} {g : Gt} {e : DE} {fm : Fm} {en : α → PyData} {h : α → PyData} (xs : List α) (k : ∀ x ∈ xs, ∃ f1, g (en x) fm = some f1 ∧ e f1 = Mo.pure (h x)) : lcGo g dYes e fm (xs.map en) = Mo.pure (xs.map h) := by
  have := lc_map (t := dYes) (p := fun _ => true) xs fun x hx => by
    obtain ⟨f1, e1, e2⟩ := k x hx
    exact ⟨f1, e1, rfl, fun _ => e2⟩
  rw [this, List.filter_eq_self.mpr fun _ _ => rfl]
theorem lcL_eq {di : DL} {g : Gt} {vs : List Nat} {t : DT} {e : DE} {fm : Fm} {xs ys : List PyData} (h : di fm = Mo.pure xs) (hl : xs.length ≤ 40000) (k : lcGo g t e (wipeF fm vs) xs = Mo.pure ys) : dLcL di g vs t e fm = Mo.pure ys := by
  unfold dLcL
  rw [h, Mo.pure_bind, few_ok hl, Mo.of_some, Mo.pure_bind, k]
  rfl
theorem lcE_eq {di : DL} {g : Gt} {vs : List Nat} {t : DT} {e : DE} {fm : Fm} {xs ys : List PyData} (h : di fm = Mo.pure xs) (hl : xs.length ≤ 40000) (k : lcGo g t e (wipeF fm vs) xs = Mo.pure ys) : dLc di g vs t e fm = Mo.pure (.list ys) := by
  unfold dLc
  rw [lcL_eq h hl k]
  rfl
def numF : Nat → List PyData → List PyData
  | _, [] => []
  | i, x :: xs => .tuple [.int (i : Nat), x] :: numF (i + 1) xs
theorem numbered_F (xs : List PyData) : Dl.numbered xs = numF 0 xs := by
  unfold Dl.numbered
  rw [List.range_eq_range']
  have : ∀ (xs : List PyData) (i : Nat), List.zipWith (fun (i : Nat) (x : PyData) => PyData.tuple [.int (i : Nat), x]) (List.range' i xs.length) xs = numF i xs := fun xs => by
    induction xs with
    | nil => intro i; rfl
    | cons x xs ih =>
      intro i
      rw [List.length_cons, List.range'_succ, List.zipWith_cons_cons, ih]
      rfl
  exact this xs 0
theorem numF_len : ∀ (i : Nat) (xs : List PyData), (numF i xs).length = xs.length
  | _, [] => rfl
  | i, x :: xs => by simp only [numF, List.length_cons, numF_len]
theorem upto_eq (n : Nat) : upto 0 n = (List.range n).map fun k : Nat => PyData.int (k : Int) := by
  unfold upto
  exact List.map_congr_left fun k _ => by rw [Int.zero_add]
theorem range_ok {n : Int} {M : Nat} (h0 : 0 ≤ n) (h : n ≤ M) (hM : M ≤ 1000) : asR1 [.int n] = some (upto 0 n.toNat) := if_pos ⟨by omega, by omega⟩
theorem range_n {n : Nat} (h : n ≤ 1000) : asR1 [.int (n : Nat)] = some (upto 0 n) := by
  have := range_ok (n := (n : Int)) (M := 1000) (by omega) (by omega) (Nat.le_refl _)
  rw [Int.toNat_natCast] at this
  exact this
/-! ### all steps -/
def ePr (q : Int × Int) : PyData := .tuple [.int q.1, .int q.2]
def row (k : Nat) (c : Mc) : List (Int × Int) := (List.range c.st.length).map fun i : Nat => ((k : Int), (i : Int))
def prs : Nat → List Mc → List (Int × Int)
  | _, [] => []
  | k, c :: ms => row k c ++ prs (k + 1) ms
theorem mem_prs : ∀ {k : Nat} {ms : List Mc} {q : Int × Int}, q ∈ prs k ms → ∃ (j : Nat) (c : Mc), ms[j]? = some c ∧ q.1 = (k + j : Nat) ∧ In c.st.length q.2
  | k, [], q, h => by simp [prs] at h
  | k, c :: ms, q, h => by
    unfold prs at h
    rcases List.mem_append.mp h with h | h
    · obtain ⟨i, hi, rfl⟩ := List.mem_map.mp h
      have := List.mem_range.mp hi
      exact ⟨0, c, rfl, by simp, by constructor <;> simp only <;> omega⟩
    · obtain ⟨j, c', e1, e2, e3⟩ := mem_prs h
      exact ⟨j + 1, c', by simpa using e1, by rw [e2]; congr 1; omega, e3⟩
theorem prs_isSt {p : Pg} {q : Int × Int} (h : q ∈ prs 0 p.ms) : ∃ c s, IsSt p q.1 q.2 c s := by
  obtain ⟨j, c, e1, e2, e3⟩ := mem_prs h
  obtain ⟨s, es⟩ := get_in e3
  have hj := (List.getElem?_eq_some_iff.mp e1).1
  rw [Nat.zero_add] at e2
  refine ⟨c, s, ⟨by rw [e2]; omega, by rw [e2]; omega⟩, ?_, e3, es⟩
  rw [e2, Int.toNat_natCast]
  exact e1
theorem row_len (k : Nat) (c : Mc) : (row k c).length = c.st.length := by simp [row]
theorem prs_len {N : Nat} : ∀ {k : Nat} {ms : List Mc}, (∀ c ∈ ms, c.st.length ≤ N) → (prs k ms).length ≤ ms.length * N
  | k, [], _ => by simp [prs]
  | k, c :: ms, h => by
    have r := prs_len (k := k + 1) fun c' hc => h c' (List.mem_cons_of_mem _ hc)
    have := h c List.mem_cons_self
    unfold prs
    rw [List.length_append, row_len, List.length_cons, Nat.succ_mul]
    omega
theorem POk.prs_len {N : Nat} {p : Pg} (h : POk N p) : (prs 0 p.ms).length ≤ 3 * N :=
  Nat.le_trans (Rf.prs_len fun c hc => (h.ms c hc).few) (Nat.mul_le_mul_right _ h.few)
theorem few_two {α : Type} {x y : PyData} {d : α} : few 100000 [x, y] d = some d := few_ok (Nat.le_of_ble_eq_true rfl)
theorem row_el {fm : Fm} {i j : PyData} (h3 : fm[3]? = some (.d i)) (h5 : fm[5]? = some (.d j)) : dTup (dCons (dV 3) (dCons (dV 5) dNil)) fm = Mo.pure (.tuple [i, j]) := by
  simp only [dTup, dCons, dNil, dV, h3, h5, slD, Mo.of_some, Mo.pure_bind, few_two]
theorem row_go {a b z s3 s5 : Sl} {c : Mc} {k : Nat} {m : PyData} : lcGo (gtN 5) dYes (dTup (dCons (dV 3) (dCons (dV 5) dNil))) [a, b, z, .d (.int (k : Nat)), .d m, s5] (upto 0 c.st.length) = Mo.pure ((row k c).map ePr) := by
  rw [upto_eq, lc_mapA (en := fun k : Nat => PyData.int (k : Int)) (h := fun i : Nat => ePr ((k : Int), (i : Int))) _ fun x hx => ⟨_, rfl, row_el rfl rfl⟩]
  unfold row
  rw [List.map_map]
  rfl
theorem steps_it {a b z : Sl} {c : Mc} {k : Nat} (h : c.st.length ≤ 1000) : dIt asR1 (dCons (dCb gLen (dCons (dOp gIx (dV 4) (dC (.int 1))) dNil)) dNil) [a, b, z, .d (.int (k : Nat)), .d (eM c), .no] = Mo.pure (upto 0 c.st.length) := by
  have e1 : gLen [PyData.tuple (c.st.map eS)] = some (.int (c.st.length : Nat)) := by
    show some (PyData.int ((c.st.map eS).length : Nat)) = _
    rw [List.length_map]
  have e0 : dCb gLen (dCons (dOp gIx (dV 4) (dC (.int 1))) dNil) [a, b, z, .d (.int (k : Nat)), .d (eM c), .no] = Mo.pure (.int (c.st.length : Nat)) := by
    unfold eM
    simp only [Mo.bind_assoc, Mo.pure_bind, Mo.of_some, Mo.bad_bind, Mo.raise_bind, Mo.nox_pure, Mo.nox_bind, Mo.nox_nox, Mo.nox_bad, initF, argSl, List.map_cons, List.map_nil, List.length_cons, List.length_nil, Nat.reduceSub, Nat.reduceAdd, List.replicate_succ, List.replicate_zero, List.cons_append, List.nil_append, List.append_nil, List.getElem?_cons_zero, List.getElem?_cons_succ, List.set_cons_zero, List.set_cons_succ, slD, slP, slO, dThen, dSkip, dSet, dPar, dRet, dIfS, dV, dC, dNil, dCons, dTup, dLst, dAnd, dOr, dNot, dIf, dAndT, dOrT, dNotT, dB, asB, dOp, dCb, dIsi, dCall, dACons, dANil, dAPen, dSl, dP, dNoP, asI, dAsg, gtN, gtT, gtNs, dSeq, asSeq, dIt, dYes, dRev, dNeg, gNeg, if_true, if_false, reduceIte, reduceCtorEq, few_ok, Nat.reduceLeDiff, Nat.zero_le, at1, e1]
  show ((dCb gLen (dCons (dOp gIx (dV 4) (dC (.int 1))) dNil) [a, b, z, .d (.int (k : Nat)), .d (eM c), .no]).bind fun x => (dNil [a, b, z, .d (.int (k : Nat)), .d (eM c), .no]).bind fun xs => Mo.pure (x :: xs)).bind (fun xs => Mo.of (asR1 xs)) = _
  rw [e0, Mo.pure_bind, show dNil [a, b, z, .d (.int (k : Nat)), .d (eM c), .no] = Mo.pure [] from rfl, Mo.pure_bind, Mo.pure_bind, range_n h]
  rfl
theorem steps_go {a b z : Sl} {N : Nat} (hN : N ≤ 1000) : ∀ (ms : List Mc) (k : Nat), (∀ c ∈ ms, c.st.length ≤ N) →
    lc2Go (gtT [3, 4]) dYes (dIt asR1 (dCons (dCb gLen (dCons (dOp gIx (dV 4) (dC (.int 1))) dNil)) dNil)) (gtN 5) [5] dYes (dTup (dCons (dV 3) (dCons (dV 5) dNil))) [a, b, z, .no, .no, .no] (numF k (ms.map eM)) = Mo.pure ((prs k ms).map ePr)
  | [], _, _ => rfl
  | c :: ms, k, h => by
    have r := steps_go (a := a) (b := b) (z := z) hN ms (k + 1) fun c' hc => h c' (List.mem_cons_of_mem _ hc)
    have hc := Nat.le_trans (h c List.mem_cons_self) hN
    show (Mo.of (some [a, b, z, .d (.int (k : Nat)), .d (eM c), .no])).bind _ = _
    rw [Mo.of_some, Mo.pure_bind, show dYes [a, b, z, .d (.int (k : Nat)), .d (eM c), .no] = Mo.pure true from rfl, Mo.nox_pure, Mo.pure_bind]
    show (dIt asR1 (dCons (dCb gLen (dCons (dOp gIx (dV 4) (dC (.int 1))) dNil)) dNil) [a, b, z, .d (.int (k : Nat)), .d (eM c), .no]).nox.bind _ = _
    rw [steps_it hc, Mo.nox_pure, Mo.pure_bind]
    show (lcGo (gtN 5) dYes (dTup (dCons (dV 3) (dCons (dV 5) dNil))) [a, b, z, .d (.int (k : Nat)), .d (eM c), .no] (upto 0 c.st.length)).bind _ = _
    rw [row_go (s3 := .no), Mo.pure_bind, r, Mo.pure_bind, ← List.map_append]
    rfl
theorem all_steps_eq {N : Nat} {p : Pg} (h : POk N p) (hN : N ≤ 1000) : f_all_steps [.d (eP p)] = Mo.pure (.list ((prs 0 p.ms).map ePr)) := by
  refine fn_pure ?_
  unfold b_all_steps dLc2 dLcL2
  have l := h.prs_len
  have r := steps_go (z := .d (.tuple (p.ms.map eM))) (a := .d (eP p)) (b := .d (.int p.lt)) hN p.ms 0 fun c hc => (h.ms c hc).few
  have e : asEnT [.tuple (p.ms.map eM)] = some (numF 0 (p.ms.map eM)) := by
    show some (Dl.numbered _) = _
    rw [numbered_F]
  unfold eP at r ⊢
  simp only [Mo.bind_assoc, Mo.pure_bind, Mo.of_some, Mo.bad_bind, Mo.raise_bind, Mo.nox_pure, Mo.nox_bind, Mo.nox_nox, Mo.nox_bad, initF, argSl, List.map_cons, List.map_nil, List.length_cons, List.length_nil, Nat.reduceSub, Nat.reduceAdd, List.replicate_succ, List.replicate_zero, List.cons_append, List.nil_append, List.append_nil, List.getElem?_cons_zero, List.getElem?_cons_succ, List.set_cons_zero, List.set_cons_succ, slD, slP, slO, dThen, dSkip, dSet, dPar, dRet, dIfS, dV, dC, dNil, dCons, dTup, dLst, dAnd, dOr, dNot, dIf, dAndT, dOrT, dNotT, dB, asB, dOp, dCb, dIsi, dCall, dACons, dANil, dAPen, dSl, dP, dNoP, asI, dAsg, gtN, gtT, gtNs, dSeq, asSeq, dIt, dYes, dRev, dNeg, gNeg, if_true, if_false, reduceIte, reduceCtorEq, few_ok, Nat.reduceLeDiff, Nat.zero_le, e, wipeF]
  rw [show lc2Go _ _ _ _ _ _ _ _ _ = _ from r]
  simp only [Mo.bind_assoc, Mo.pure_bind, Mo.of_some, Mo.bad_bind, Mo.raise_bind, Mo.nox_pure, Mo.nox_bind, Mo.nox_nox, Mo.nox_bad, initF, argSl, List.map_cons, List.map_nil, List.length_cons, List.length_nil, Nat.reduceSub, Nat.reduceAdd, List.replicate_succ, List.replicate_zero, List.cons_append, List.nil_append, List.append_nil, List.getElem?_cons_zero, List.getElem?_cons_succ, List.set_cons_zero, List.set_cons_succ, slD, slP, slO, dThen, dSkip, dSet, dPar, dRet, dIfS, dV, dC, dNil, dCons, dTup, dLst, dAnd, dOr, dNot, dIf, dAndT, dOrT, dNotT, dB, asB, dOp, dCb, dIsi, dCall, dACons, dANil, dAPen, dSl, dP, dNoP, asI, dAsg, gtN, gtT, gtNs, dSeq, asSeq, dIt, dYes, dRev, dNeg, gNeg, if_true, if_false, reduceIte, reduceCtorEq, few_ok, Nat.reduceLeDiff, Nat.zero_le, few_ok (n := 90000) (xs := (prs 0 p.ms).map ePr) (by rw [List.length_map]; omega)]
end Rf

set_option maxRecDepth 100000
set_option maxHeartbeats 4000000
namespace Rf
open PySem PySem.Spec PyProof.Rows L2 Gd Dt Dl Ee Sd
/-! ### a lot one step back -/
def eo : Option Lt → PyData
  | none => .none
  | some l => eL l
def eoL : Option Lt → List PyData
  | none => []
  | some l => [eL l]
section
variable {p : Pg} {m i : Int} {c : Mc} {s : St} {l : Lt} {N W : Nat}
theorem LOk.wln (h : LOk p W l) (k : POk N p) : (l.ws.length : Int) = p.ln := by
  have := h.wl
  have := k.ln
  omega
theorem LOk.w3 (h : LOk p W l) (k : POk N p) : l.ws.length ≤ 3 := by
  have := h.wln k
  have := k.ln
  omega
theorem LOk.pin (h : LOk p W l) (hm : In p.ms.length m) : In l.ps.length m := by rw [PsOk.len h.ps]; exact hm
theorem LOk.p3 (h : LOk p W l) (k : POk N p) : l.ps.length ≤ 3 := by
  have := PsOk.len h.ps
  have := k.few
  omega
theorem wB_len {ws r : List (List Int)} {a : Ac} (e : wB ws a = some r) : r.length = ws.length := by
  unfold wB at e
  split at e
  · split at e
    · split at e
      · split at e <;> (cases e; simp)
      · cases e; rfl
    · cases e
  · split at e
    · cases e; simp
    · cases e
  · split at e
    · split at e
      · cases e; rfl
      · cases e
    · cases e
  · cases e; rfl
theorem back_eq (hp : POk N p) (hs : IsSt p m i c s) (hl : LOk p W l) (hW : W ≤ 1000) : f_back [.d (eP p), .d (eL l), .d (.int m), .d (.int i)] = Mo.pure (eo (lB s m l)) := by
  refine fn_pure ?_
  unfold b_back
  have ok := hs.sok hp
  obtain ⟨x, ex⟩ := get_in (hl.pin hs.m0)
  have e1 := step_at_eq hs
  have e2 := ix_p (hl.pin hs.m0) ex
  have e3 := can_end_eq (ws := l.ws) ok.ac (hl.wln hp)
  have hB : lB s m l = if x = s.to then (wB l.ws s.ac).map fun ws => ⟨l.ps.set m.toNat s.fr, ws⟩ else none := by
    unfold lB
    rw [ex]
  rw [hB]
  unfold eL at *
  simp only [Mo.bind_assoc, Mo.pure_bind, Mo.of_some, Mo.bad_bind, Mo.raise_bind, Mo.nox_pure, Mo.nox_bind, Mo.nox_nox, Mo.nox_bad, initF, argSl, List.map_cons, List.map_nil, List.length_cons, List.length_nil, Nat.reduceSub, Nat.reduceAdd, List.replicate_succ, List.replicate_zero, List.cons_append, List.nil_append, List.append_nil, List.getElem?_cons_zero, List.getElem?_cons_succ, List.set_cons_zero, List.set_cons_succ, slD, slP, slO, dThen, dSkip, dSet, dPar, dRet, dIfS, dV, dC, dNil, dCons, dTup, dLst, dAnd, dOr, dNot, dIf, dAndT, dOrT, dNotT, dB, asB, dOp, dCb, dIsi, dCall, dACons, dANil, dAPen, dSl, dP, dNoP, asI, dAsg, gtN, gtT, gtNs, dSeq, asSeq, dIt, dYes, dRev, dNeg, gNeg, if_true, if_false, reduceIte, reduceCtorEq, few_ok, Nat.reduceLeDiff, Nat.zero_le, e1]
  unfold eS
  simp only [Mo.bind_assoc, Mo.pure_bind, Mo.of_some, Mo.bad_bind, Mo.raise_bind, Mo.nox_pure, Mo.nox_bind, Mo.nox_nox, Mo.nox_bad, initF, argSl, List.map_cons, List.map_nil, List.length_cons, List.length_nil, Nat.reduceSub, Nat.reduceAdd, List.replicate_succ, List.replicate_zero, List.cons_append, List.nil_append, List.append_nil, List.getElem?_cons_zero, List.getElem?_cons_succ, List.set_cons_zero, List.set_cons_succ, slD, slP, slO, dThen, dSkip, dSet, dPar, dRet, dIfS, dV, dC, dNil, dCons, dTup, dLst, dAnd, dOr, dNot, dIf, dAndT, dOrT, dNotT, dB, asB, dOp, dCb, dIsi, dCall, dACons, dANil, dAPen, dSl, dP, dNoP, asI, dAsg, gtN, gtT, gtNs, dSeq, asSeq, dIt, dYes, dRev, dNeg, gNeg, if_true, if_false, reduceIte, reduceCtorEq, few_ok, Nat.reduceLeDiff, Nat.zero_le, e2, gNe_int]
  cases q : decide (x = s.to) with
  | false =>
    rw [if_neg (of_decide_eq_false q)]
    simp only [Mo.bind_assoc, Mo.pure_bind, Mo.of_some, Mo.bad_bind, Mo.raise_bind, Mo.nox_pure, Mo.nox_bind, Mo.nox_nox, Mo.nox_bad, initF, argSl, List.map_cons, List.map_nil, List.length_cons, List.length_nil, Nat.reduceSub, Nat.reduceAdd, List.replicate_succ, List.replicate_zero, List.cons_append, List.nil_append, List.append_nil, List.getElem?_cons_zero, List.getElem?_cons_succ, List.set_cons_zero, List.set_cons_succ, slD, slP, slO, dThen, dSkip, dSet, dPar, dRet, dIfS, dV, dC, dNil, dCons, dTup, dLst, dAnd, dOr, dNot, dIf, dAndT, dOrT, dNotT, dB, asB, dOp, dCb, dIsi, dCall, dACons, dANil, dAPen, dSl, dP, dNoP, asI, dAsg, gtN, gtT, gtNs, dSeq, asSeq, dIt, dYes, dRev, dNeg, gNeg, if_true, if_false, reduceIte, reduceCtorEq, few_ok, Nat.reduceLeDiff, Nat.zero_le, Bool.not_false]
    rfl
  | true =>
    rw [if_pos (of_decide_eq_true q)]
    cases w : wB l.ws s.ac with
    | none =>
      rw [w] at e3
      simp only [Mo.bind_assoc, Mo.pure_bind, Mo.of_some, Mo.bad_bind, Mo.raise_bind, Mo.nox_pure, Mo.nox_bind, Mo.nox_nox, Mo.nox_bad, initF, argSl, List.map_cons, List.map_nil, List.length_cons, List.length_nil, Nat.reduceSub, Nat.reduceAdd, List.replicate_succ, List.replicate_zero, List.cons_append, List.nil_append, List.append_nil, List.getElem?_cons_zero, List.getElem?_cons_succ, List.set_cons_zero, List.set_cons_succ, slD, slP, slO, dThen, dSkip, dSet, dPar, dRet, dIfS, dV, dC, dNil, dCons, dTup, dLst, dAnd, dOr, dNot, dIf, dAndT, dOrT, dNotT, dB, asB, dOp, dCb, dIsi, dCall, dACons, dANil, dAPen, dSl, dP, dNoP, asI, dAsg, gtN, gtT, gtNs, dSeq, asSeq, dIt, dYes, dRev, dNeg, gNeg, if_true, if_false, reduceIte, reduceCtorEq, few_ok, Nat.reduceLeDiff, Nat.zero_le, Bool.not_true, e3, Option.isSome_none, Bool.not_false]
      rfl
    | some r =>
      rw [w] at e3
      have e4 := before_eq ok.ac (hl.wln hp) (hl.w3 hp) (fun w hw => Nat.le_trans (hl.ws w hw).2 hW) w
      have e5 := exch_I (y := s.fr) (hl.pin hs.m0) (by have := hl.p3 hp; omega)
      simp only [Mo.bind_assoc, Mo.pure_bind, Mo.of_some, Mo.bad_bind, Mo.raise_bind, Mo.nox_pure, Mo.nox_bind, Mo.nox_nox, Mo.nox_bad, initF, argSl, List.map_cons, List.map_nil, List.length_cons, List.length_nil, Nat.reduceSub, Nat.reduceAdd, List.replicate_succ, List.replicate_zero, List.cons_append, List.nil_append, List.append_nil, List.getElem?_cons_zero, List.getElem?_cons_succ, List.set_cons_zero, List.set_cons_succ, slD, slP, slO, dThen, dSkip, dSet, dPar, dRet, dIfS, dV, dC, dNil, dCons, dTup, dLst, dAnd, dOr, dNot, dIf, dAndT, dOrT, dNotT, dB, asB, dOp, dCb, dIsi, dCall, dACons, dANil, dAPen, dSl, dP, dNoP, asI, dAsg, gtN, gtT, gtNs, dSeq, asSeq, dIt, dYes, dRev, dNeg, gNeg, if_true, if_false, reduceIte, reduceCtorEq, few_ok, Nat.reduceLeDiff, Nat.zero_le, Bool.not_true, e3, Option.isSome_some, e4, e5]
      rfl
/-! the law's own -/
theorem ix_o {xs : List PyData} {y : PyData} {j : Int} (h : In xs.length j) (e : xs[j.toNat]? = some y) : gIx (.list xs) (.int j) = some y := atI_get h e
theorem setAt_eq {xs : List PyData} {y : PyData} {j : Int} (h : In xs.length j) : setAt xs y (.int j) = some (xs.set j.toNat y) := by
  unfold setAt ixN
  dsimp only
  rw [if_pos h.1, if_pos h.2]
  rfl
theorem get_w {ws : List (List Int)} {j : Int} {w : List Int} (e : ws[j.toNat]? = some w) : (ws.map tupI)[j.toNat]? = some (tupI w) := by rw [List.getElem?_map, e]; rfl
theorem in_w {ws : List (List Int)} {j : Int} (h : In ws.length j) : In (ws.map tupI).length j := by rw [List.length_map]; exact h
def wLB : DS := (dThen (dIfS (dOrT (dB (dOp gNe (dOp gIx (dOp gIx (dV 1) (dC (.int 0))) (dV 2)) (dV 6))) (dAndT (dB (dOp gEq (dOp gIx (dV 5) (dC (.int 0))) (dC (.str "test")))) (dB (dOp gNe (dIxO 7 (dOp gIx (dV 5) (dC (.int 1)))) (dTup dNil))))) (dRet (dLst dNil)) dSkip)
    (dThen (dIfS (dB (dOp gEq (dOp gIx (dV 5) (dC (.int 0))) (dC (.str "take")))) (dIxSet 7 (dOp gAdd (dTup (dCons (dOp gIx (dV 5) (dC (.int 2))) dNil)) (dIxO 7 (dOp gIx (dV 5) (dC (.int 1))))) (dOp gIx (dV 5) (dC (.int 1)))) dSkip)
    (dThen (dIfS (dAndT (dB (dOp gEq (dOp gIx (dV 5) (dC (.int 0))) (dC (.str "send")))) (dAndT (dB (dOp gNe (dIxO 7 (dOp gIx (dV 5) (dC (.int 1)))) (dTup dNil))) (dB (dOp gLe (dOp gIx (dIxO 7 (dOp gIx (dV 5) (dC (.int 1)))) (dNeg (dC (.int 1)))) (dOp gIx (dV 5) (dC (.int 2))))))) (dIxSet 7 (dSl (dIxO 7 (dOp gIx (dV 5) (dC (.int 1)))) dNoP (dP (dNeg (dC (.int 1))))) (dOp gIx (dV 5) (dC (.int 1)))) dSkip)
    (dFrz 7 (dRet (dLst (dCons (dTup (dCons (dCall 3 f_law_at (dACons (dOp gIx (dV 1) (dC (.int 0))) (dACons (dV 2) (dACons (dV 4) dANil)))) (dCons (dCb gTupOf (dCons (dV 7) dNil)) dNil))) dNil)))))))
theorem frz7 {a b c d e f g : Sl} {xs : List PyData} {u : DS} : dFrz 7 u [a, b, c, d, e, f, g, .own xs] = u [a, b, c, d, e, f, g, .d (.list xs)] := rfl
theorem ixo7 {a b c d e f g : Sl} {xs : List PyData} {y : PyData} {h : DE} {j : Int} (k : h [a, b, c, d, e, f, g, .own xs] = Mo.pure (.int j)) (hj : In xs.length j) (ej : xs[j.toNat]? = some y) : dIxO 7 h [a, b, c, d, e, f, g, .own xs] = Mo.pure y := by
  show (h [a, b, c, d, e, f, g, .own xs]).bind (fun y => Mo.of (gIx (.list xs) y)) = _
  rw [k, Mo.pure_bind, ix_o hj ej]
  rfl
theorem ixs7 {a b c d e f g : Sl} {xs : List PyData} {y : PyData} {h h2 : DE} {j : Int} (k : h [a, b, c, d, e, f, g, .own xs] = Mo.pure y) (k2 : h2 [a, b, c, d, e, f, g, .own xs] = Mo.pure (.int j)) (hj : In xs.length j) : dIxSet 7 h h2 [a, b, c, d, e, f, g, .own xs] = Mo.pure (.nx [a, b, c, d, e, f, g, .own (xs.set j.toNat y)]) := by
  unfold dIxSet
  rw [k, Mo.pure_bind]
  show (h2 [a, b, c, d, e, f, g, .own xs]).bind (fun j => (Mo.of (setAt xs y j)).bind fun ys => Mo.pure (Out.nx [a, b, c, d, e, f, g, .own ys])) = _
  rw [k2, Mo.pure_bind, setAt_eq hj]
  rfl
theorem lot_back_end {P L : PyData} {ps : List Int} {fr : Int} {ws : List (List Int)} {x5 x6 : Sl} (hL : gIx L (.int 0) = some (tupI ps)) (hm : In ps.length m) (h3 : ps.length ≤ 1000) :
    dFrz 7 (dRet (dLst (dCons (dTup (dCons (dCall 3 f_law_at (dACons (dOp gIx (dV 1) (dC (.int 0))) (dACons (dV 2) (dACons (dV 4) dANil)))) (dCons (dCb gTupOf (dCons (dV 7) dNil)) dNil))) dNil))) [.d P, .d L, .d (.int m), .d (.int i), .d (.int fr), x5, x6, .own (ws.map tupI)] = Mo.pure (.rt (.list [eL ⟨ps.set m.toNat fr, ws⟩])) := by
  rw [frz7]
  simp only [Mo.bind_assoc, Mo.pure_bind, Mo.of_some, Mo.bad_bind, Mo.raise_bind, Mo.nox_pure, Mo.nox_bind, Mo.nox_nox, Mo.nox_bad, initF, argSl, List.map_cons, List.map_nil, List.length_cons, List.length_nil, Nat.reduceSub, Nat.reduceAdd, List.replicate_succ, List.replicate_zero, List.cons_append, List.nil_append, List.append_nil, List.getElem?_cons_zero, List.getElem?_cons_succ, List.set_cons_zero, List.set_cons_succ, slD, slP, slO, dThen, dSkip, dSet, dPar, dRet, dIfS, dV, dC, dNil, dCons, dTup, dLst, dAnd, dOr, dNot, dIf, dAndT, dOrT, dNotT, dB, asB, dOp, dCb, dIsi, dCall, dACons, dANil, dAPen, dSl, dP, dNoP, asI, dAsg, gtN, gtT, gtNs, dSeq, asSeq, dIt, dYes, dRev, dNeg, gNeg, if_true, if_false, reduceIte, reduceCtorEq, few_ok, Nat.reduceLeDiff, Nat.zero_le, hL, lat_I (y := fr) hm h3, gTupOf]
  rfl
theorem or_t {t u : DT} {fm : Fm} (h : t fm = Mo.pure true) : dOrT t u fm = Mo.pure true := by unfold dOrT; rw [h]; rfl
theorem or_f {t u : DT} {fm : Fm} (h : t fm = Mo.pure false) : dOrT t u fm = u fm := by unfold dOrT; rw [h]; rfl
theorem not_t {t : DT} {fm : Fm} {q : Bool} (h : t fm = Mo.pure q) : dNotT t fm = Mo.pure (!q) := by unfold dNotT; rw [h]; rfl
theorem t_op {g : G2} {d1 d2 : DE} {fm : Fm} {x y : PyData} {q : Bool} (h1 : d1 fm = Mo.pure x) (h2 : d2 fm = Mo.pure y) (h : g x y = some (.bool q)) : dB (dOp g d1 d2) fm = Mo.pure q := by
  show (((d1 fm).bind fun x => (d2 fm).bind fun y => Mo.of (g x y)).bind fun x => Mo.of (asB x)) = _
  rw [h1, Mo.pure_bind, h2, Mo.pure_bind, h]
  rfl
theorem cb_1 {g : List PyData → Option PyData} {d : DE} {fm : Fm} {x y : PyData} (h : d fm = Mo.pure x) (k : g [x] = some y) : dCb g (dCons d dNil) fm = Mo.pure y := by
  show (((d fm).bind fun x => (dNil fm).bind fun xs => Mo.pure (x :: xs)).bind fun xs => Mo.of (g xs)) = _
  rw [h]
  show Mo.of (g [x]) = _
  rw [k]
  rfl
theorem then_skip {t : DT} {a u : DS} {fm : Fm} (h : t fm = Mo.pure false) : dThen (dIfS t a dSkip) u fm = u fm := then_nx ((ifs_f h).trans rfl)
theorem then_do {t : DT} {a b u : DS} {fm f : Fm} (h : t fm = Mo.pure true) (k : a fm = Mo.pure (.nx f)) : dThen (dIfS t a b) u fm = u f := then_nx ((ifs_t h).trans k)
theorem then_ret {t : DT} {a b u : DS} {fm : Fm} {x : PyData} (h : t fm = Mo.pure true) (k : a fm = Mo.pure (.rt x)) : dThen (dIfS t a b) u fm = Mo.pure (.rt x) := then_rt ((ifs_t h).trans k)
theorem str_no {x z : Str} (h : isTxt z (.str x) = false) : gEq (.str x) (.str z) = some (.bool false) := by rw [gEq_str rfl, h]
theorem str_yes {x z : Str} (h : isTxt z (.str x) = true) : gEq (.str x) (.str z) = some (.bool true) := by rw [gEq_str rfl, h]
theorem lot_back_eq (hp : POk N p) (hs : IsSt p m i c s) (hl : LOk p W l) (hW : W ≤ 1000) : f_law_lot_back [.d (eP p), .d (eL l), .d (.int m), .d (.int i)] = Mo.pure (.list (eoL (lB s m l))) := by
  refine fn_pure ?_
  unfold b_law_lot_back
  have ok := hs.sok hp
  obtain ⟨x, ex⟩ := get_in (hl.pin hs.m0)
  have e2 := ix_p (hl.pin hs.m0) ex
  have hB : lB s m l = if x = s.to then (wB l.ws s.ac).map fun ws => ⟨l.ps.set m.toNat s.fr, ws⟩ else none := by
    unfold lB
    rw [ex]
  rw [hB]
  have hin := hl.wln hp
  have h3 := hl.w3 hp
  have hpn := hl.pin hs.m0
  have hp3 : l.ps.length ≤ 1000 := by have := hl.p3 hp; omega
  have hL : gIx (eL l) (.int 0) = some (tupI l.ps) := at0
  have hL1 : gIx (eL l) (.int 1) = some (eWs l.ws) := at1
  have st1 : ∀ u, dThen (dAsg (gtT [4, 5, 6]) (dOp gIx (dOp gIx (dOp gIx (dOp gIx (dV 0) (dC (.int 2))) (dV 2)) (dC (.int 1))) (dV 3))) (dThen (dNewLs 7 (dCons (dOp gIx (dV 1) (dC (.int 1))) dNil)) u) (initF 8 [.d (eP p), .d (eL l), .d (.int m), .d (.int i)]) = u [.d (eP p), .d (eL l), .d (.int m), .d (.int i), .d (.int s.fr), .d (eA s.ac), .d (.int s.to), .own (l.ws.map tupI)] := fun u => by
    refine (then_nx (f := [.d (eP p), .d (eL l), .d (.int m), .d (.int i), .d (.int s.fr), .d (eA s.ac), .d (.int s.to), .no]) ?_).trans (then_nx ?_)
    · unfold eP
      simp only [Mo.bind_assoc, Mo.pure_bind, Mo.of_some, Mo.bad_bind, Mo.raise_bind, Mo.nox_pure, Mo.nox_bind, Mo.nox_nox, Mo.nox_bad, initF, argSl, List.map_cons, List.map_nil, List.length_cons, List.length_nil, Nat.reduceSub, Nat.reduceAdd, List.replicate_succ, List.replicate_zero, List.cons_append, List.nil_append, List.append_nil, List.getElem?_cons_zero, List.getElem?_cons_succ, List.set_cons_zero, List.set_cons_succ, slD, slP, slO, dThen, dSkip, dSet, dPar, dRet, dIfS, dV, dC, dNil, dCons, dTup, dLst, dAnd, dOr, dNot, dIf, dAndT, dOrT, dNotT, dB, asB, dOp, dCb, dIsi, dCall, dACons, dANil, dAPen, dSl, dP, dNoP, asI, dAsg, gtN, gtT, gtNs, dSeq, asSeq, dIt, dYes, dRev, dNeg, gNeg, if_true, if_false, reduceIte, reduceCtorEq, few_ok, Nat.reduceLeDiff, Nat.zero_le, at2, hs.im]
      unfold eM
      simp only [Mo.bind_assoc, Mo.pure_bind, Mo.of_some, Mo.bad_bind, Mo.raise_bind, Mo.nox_pure, Mo.nox_bind, Mo.nox_nox, Mo.nox_bad, initF, argSl, List.map_cons, List.map_nil, List.length_cons, List.length_nil, Nat.reduceSub, Nat.reduceAdd, List.replicate_succ, List.replicate_zero, List.cons_append, List.nil_append, List.append_nil, List.getElem?_cons_zero, List.getElem?_cons_succ, List.set_cons_zero, List.set_cons_succ, slD, slP, slO, dThen, dSkip, dSet, dPar, dRet, dIfS, dV, dC, dNil, dCons, dTup, dLst, dAnd, dOr, dNot, dIf, dAndT, dOrT, dNotT, dB, asB, dOp, dCb, dIsi, dCall, dACons, dANil, dAPen, dSl, dP, dNoP, asI, dAsg, gtN, gtT, gtNs, dSeq, asSeq, dIt, dYes, dRev, dNeg, gNeg, if_true, if_false, reduceIte, reduceCtorEq, few_ok, Nat.reduceLeDiff, Nat.zero_le, at1, hs.is]
      unfold eS
      simp only [Mo.bind_assoc, Mo.pure_bind, Mo.of_some, Mo.bad_bind, Mo.raise_bind, Mo.nox_pure, Mo.nox_bind, Mo.nox_nox, Mo.nox_bad, initF, argSl, List.map_cons, List.map_nil, List.length_cons, List.length_nil, Nat.reduceSub, Nat.reduceAdd, List.replicate_succ, List.replicate_zero, List.cons_append, List.nil_append, List.append_nil, List.getElem?_cons_zero, List.getElem?_cons_succ, List.set_cons_zero, List.set_cons_succ, slD, slP, slO, dThen, dSkip, dSet, dPar, dRet, dIfS, dV, dC, dNil, dCons, dTup, dLst, dAnd, dOr, dNot, dIf, dAndT, dOrT, dNotT, dB, asB, dOp, dCb, dIsi, dCall, dACons, dANil, dAPen, dSl, dP, dNoP, asI, dAsg, gtN, gtT, gtNs, dSeq, asSeq, dIt, dYes, dRev, dNeg, gNeg, if_true, if_false, reduceIte, reduceCtorEq, few_ok, Nat.reduceLeDiff, Nat.zero_le]
    · unfold dNewLs
      simp only [Mo.bind_assoc, Mo.pure_bind, Mo.of_some, Mo.bad_bind, Mo.raise_bind, Mo.nox_pure, Mo.nox_bind, Mo.nox_nox, Mo.nox_bad, initF, argSl, List.map_cons, List.map_nil, List.length_cons, List.length_nil, Nat.reduceSub, Nat.reduceAdd, List.replicate_succ, List.replicate_zero, List.cons_append, List.nil_append, List.append_nil, List.getElem?_cons_zero, List.getElem?_cons_succ, List.set_cons_zero, List.set_cons_succ, slD, slP, slO, dThen, dSkip, dSet, dPar, dRet, dIfS, dV, dC, dNil, dCons, dTup, dLst, dAnd, dOr, dNot, dIf, dAndT, dOrT, dNotT, dB, asB, dOp, dCb, dIsi, dCall, dACons, dANil, dAPen, dSl, dP, dNoP, asI, dAsg, gtN, gtT, gtNs, dSeq, asSeq, dIt, dYes, dRev, dNeg, gNeg, if_true, if_false, reduceIte, reduceCtorEq, few_ok, Nat.reduceLeDiff, Nat.zero_le, hL1, gLstOf, eWs]
  rw [st1]
  generalize eP p = P at *
  generalize eL l = L at *
  obtain ⟨ps, ws⟩ := l
  dsimp only at *
  cases q : decide (x = s.to) with
  | false =>
    rw [if_neg (of_decide_eq_false q)]
    refine then_ret (x := .list []) (or_t ?_) rfl
    simp only [Mo.bind_assoc, Mo.pure_bind, Mo.of_some, Mo.bad_bind, Mo.raise_bind, Mo.nox_pure, Mo.nox_bind, Mo.nox_nox, Mo.nox_bad, initF, argSl, List.map_cons, List.map_nil, List.length_cons, List.length_nil, Nat.reduceSub, Nat.reduceAdd, List.replicate_succ, List.replicate_zero, List.cons_append, List.nil_append, List.append_nil, List.getElem?_cons_zero, List.getElem?_cons_succ, List.set_cons_zero, List.set_cons_succ, slD, slP, slO, dThen, dSkip, dSet, dPar, dRet, dIfS, dV, dC, dNil, dCons, dTup, dLst, dAnd, dOr, dNot, dIf, dAndT, dOrT, dNotT, dB, asB, dOp, dCb, dIsi, dCall, dACons, dANil, dAPen, dSl, dP, dNoP, asI, dAsg, gtN, gtT, gtNs, dSeq, asSeq, dIt, dYes, dRev, dNeg, gNeg, if_true, if_false, reduceIte, reduceCtorEq, few_ok, Nat.reduceLeDiff, Nat.zero_le, hL, e2, gNe_int, q, Bool.not_false]
  | true =>
    rw [if_pos (of_decide_eq_true q)]
    have g1 : (dB (dOp gNe (dOp gIx (dOp gIx (dV 1) (dC (.int 0))) (dV 2)) (dV 6))) [.d P, .d L, .d (.int m), .d (.int i), .d (.int s.fr), .d (eA s.ac), .d (.int s.to), .own (ws.map tupI)] = Mo.pure false := by
      simp only [Mo.bind_assoc, Mo.pure_bind, Mo.of_some, Mo.bad_bind, Mo.raise_bind, Mo.nox_pure, Mo.nox_bind, Mo.nox_nox, Mo.nox_bad, initF, argSl, List.map_cons, List.map_nil, List.length_cons, List.length_nil, Nat.reduceSub, Nat.reduceAdd, List.replicate_succ, List.replicate_zero, List.cons_append, List.nil_append, List.append_nil, List.getElem?_cons_zero, List.getElem?_cons_succ, List.set_cons_zero, List.set_cons_succ, slD, slP, slO, dThen, dSkip, dSet, dPar, dRet, dIfS, dV, dC, dNil, dCons, dTup, dLst, dAnd, dOr, dNot, dIf, dAndT, dOrT, dNotT, dB, asB, dOp, dCb, dIsi, dCall, dACons, dANil, dAPen, dSl, dP, dNoP, asI, dAsg, gtN, gtT, gtNs, dSeq, asSeq, dIt, dYes, dRev, dNeg, gNeg, if_true, if_false, reduceIte, reduceCtorEq, few_ok, Nat.reduceLeDiff, Nat.zero_le, hL, e2, gNe_int, q, Bool.not_true]
    cases ha : s.ac with
    | send j d =>
      rw [ha] at g1
      have hj : In ws.length j := by have k := ok.ac; rw [ha] at k; rw [hin]; exact k.1
      obtain ⟨w, ew⟩ := get_in hj
      have o1 : ∀ h : DE, h [.d P, .d L, .d (.int m), .d (.int i), .d (.int s.fr), .d (eA (.send j d)), .d (.int s.to), .own (ws.map tupI)] = Mo.pure (.int j) → dIxO 7 h [.d P, .d L, .d (.int m), .d (.int i), .d (.int s.fr), .d (eA (.send j d)), .d (.int s.to), .own (ws.map tupI)] = Mo.pure (tupI w) := fun h k => ixo7 k (in_w hj) (get_w ew)
      have a1 : (dOp gIx (dV 5) (dC (.int 1))) [.d P, .d L, .d (.int m), .d (.int i), .d (.int s.fr), .d (eA (.send j d)), .d (.int s.to), .own (ws.map tupI)] = Mo.pure (.int j) := by simp only [Mo.bind_assoc, Mo.pure_bind, Mo.of_some, Mo.bad_bind, Mo.raise_bind, Mo.nox_pure, Mo.nox_bind, Mo.nox_nox, Mo.nox_bad, initF, argSl, List.map_cons, List.map_nil, List.length_cons, List.length_nil, Nat.reduceSub, Nat.reduceAdd, List.replicate_succ, List.replicate_zero, List.cons_append, List.nil_append, List.append_nil, List.getElem?_cons_zero, List.getElem?_cons_succ, List.set_cons_zero, List.set_cons_succ, slD, slP, slO, dThen, dSkip, dSet, dPar, dRet, dIfS, dV, dC, dNil, dCons, dTup, dLst, dAnd, dOr, dNot, dIf, dAndT, dOrT, dNotT, dB, asB, dOp, dCb, dIsi, dCall, dACons, dANil, dAPen, dSl, dP, dNoP, asI, dAsg, gtN, gtT, gtNs, dSeq, asSeq, dIt, dYes, dRev, dNeg, gNeg, if_true, if_false, reduceIte, reduceCtorEq, few_ok, Nat.reduceLeDiff, Nat.zero_le, eA, at1]
      have o2 := o1 _ a1
      refine (then_skip ((or_f g1).trans ?_)).trans ((then_skip ?_).trans ?_)
      · simp only [Mo.bind_assoc, Mo.pure_bind, Mo.of_some, Mo.bad_bind, Mo.raise_bind, Mo.nox_pure, Mo.nox_bind, Mo.nox_nox, Mo.nox_bad, initF, argSl, List.map_cons, List.map_nil, List.length_cons, List.length_nil, Nat.reduceSub, Nat.reduceAdd, List.replicate_succ, List.replicate_zero, List.cons_append, List.nil_append, List.append_nil, List.getElem?_cons_zero, List.getElem?_cons_succ, List.set_cons_zero, List.set_cons_succ, slD, slP, slO, dThen, dSkip, dSet, dPar, dRet, dIfS, dV, dC, dNil, dCons, dTup, dLst, dAnd, dOr, dNot, dIf, dAndT, dOrT, dNotT, dB, asB, dOp, dCb, dIsi, dCall, dACons, dANil, dAPen, dSl, dP, dNoP, asI, dAsg, gtN, gtT, gtNs, dSeq, asSeq, dIt, dYes, dRev, dNeg, gNeg, if_true, if_false, reduceIte, reduceCtorEq, few_ok, Nat.reduceLeDiff, Nat.zero_le, eA, at0, str_no (x := "send") (z := "test") (by decide +kernel)]
      · simp only [Mo.bind_assoc, Mo.pure_bind, Mo.of_some, Mo.bad_bind, Mo.raise_bind, Mo.nox_pure, Mo.nox_bind, Mo.nox_nox, Mo.nox_bad, initF, argSl, List.map_cons, List.map_nil, List.length_cons, List.length_nil, Nat.reduceSub, Nat.reduceAdd, List.replicate_succ, List.replicate_zero, List.cons_append, List.nil_append, List.append_nil, List.getElem?_cons_zero, List.getElem?_cons_succ, List.set_cons_zero, List.set_cons_succ, slD, slP, slO, dThen, dSkip, dSet, dPar, dRet, dIfS, dV, dC, dNil, dCons, dTup, dLst, dAnd, dOr, dNot, dIf, dAndT, dOrT, dNotT, dB, asB, dOp, dCb, dIsi, dCall, dACons, dANil, dAPen, dSl, dP, dNoP, asI, dAsg, gtN, gtT, gtNs, dSeq, asSeq, dIt, dYes, dRev, dNeg, gNeg, if_true, if_false, reduceIte, reduceCtorEq, few_ok, Nat.reduceLeDiff, Nat.zero_le, eA, at0, str_no (x := "send") (z := "take") (by decide +kernel)]
      · cases z : w.getLast? with
        | none =>
          have := last_none z
          subst this
          have e : wB ws (.send j d) = some ws := by simp only [wB, ew, z]
          rw [e]
          refine (then_skip ?_).trans (lot_back_end hL hpn hp3)
          have n : gNe (tupI []) (.tuple []) = some (.bool false) := gNe_nilT
          simp only [Mo.bind_assoc, Mo.pure_bind, Mo.of_some, Mo.bad_bind, Mo.raise_bind, Mo.nox_pure, Mo.nox_bind, Mo.nox_nox, Mo.nox_bad, initF, argSl, List.map_cons, List.map_nil, List.length_cons, List.length_nil, Nat.reduceSub, Nat.reduceAdd, List.replicate_succ, List.replicate_zero, List.cons_append, List.nil_append, List.append_nil, List.getElem?_cons_zero, List.getElem?_cons_succ, List.set_cons_zero, List.set_cons_succ, slD, slP, slO, dThen, dSkip, dSet, dPar, dRet, dIfS, dV, dC, dNil, dCons, dTup, dLst, dAnd, dOr, dNot, dIf, dAndT, dOrT, dNotT, dB, asB, dOp, dCb, dIsi, dCall, dACons, dANil, dAPen, dSl, dP, dNoP, asI, dAsg, gtN, gtT, gtNs, dSeq, asSeq, dIt, dYes, dRev, dNeg, gNeg, if_true, if_false, reduceIte, reduceCtorEq, few_ok, Nat.reduceLeDiff, Nat.zero_le, eA, at0, str_yes (x := "send") (z := "send") (by decide +kernel)]
          have o2' := o2
          unfold eA at o2'
          simp only [Mo.bind_assoc, Mo.pure_bind, Mo.of_some, Mo.bad_bind, Mo.raise_bind, Mo.nox_pure, Mo.nox_bind, Mo.nox_nox, Mo.nox_bad, initF, argSl, List.map_cons, List.map_nil, List.length_cons, List.length_nil, Nat.reduceSub, Nat.reduceAdd, List.replicate_succ, List.replicate_zero, List.cons_append, List.nil_append, List.append_nil, List.getElem?_cons_zero, List.getElem?_cons_succ, List.set_cons_zero, List.set_cons_succ, slD, slP, slO, dThen, dSkip, dSet, dPar, dRet, dIfS, dV, dC, dNil, dCons, dTup, dLst, dAnd, dOr, dNot, dIf, dAndT, dOrT, dNotT, dB, asB, dOp, dCb, dIsi, dCall, dACons, dANil, dAPen, dSl, dP, dNoP, asI, dAsg, gtN, gtT, gtNs, dSeq, asSeq, dIt, dYes, dRev, dNeg, gNeg, if_true, if_false, reduceIte, reduceCtorEq, few_ok, Nat.reduceLeDiff, Nat.zero_le, o2', n]
        | some y =>
          have hne : gNe (tupI w) (.tuple []) = some (.bool true) := by
            rw [gNe_nilT]
            cases w with
            | nil => cases z
            | cons a b => rfl
          have o2' := o2
          unfold eA at o2'
          have t0 : (dB (dOp gEq (dOp gIx (dV 5) (dC (.int 0))) (dC (.str "send")))) [.d P, .d L, .d (.int m), .d (.int i), .d (.int s.fr), .d (eA (.send j d)), .d (.int s.to), .own (ws.map tupI)] = Mo.pure true := by
            simp only [Mo.bind_assoc, Mo.pure_bind, Mo.of_some, Mo.bad_bind, Mo.raise_bind, Mo.nox_pure, Mo.nox_bind, Mo.nox_nox, Mo.nox_bad, initF, argSl, List.map_cons, List.map_nil, List.length_cons, List.length_nil, Nat.reduceSub, Nat.reduceAdd, List.replicate_succ, List.replicate_zero, List.cons_append, List.nil_append, List.append_nil, List.getElem?_cons_zero, List.getElem?_cons_succ, List.set_cons_zero, List.set_cons_succ, slD, slP, slO, dThen, dSkip, dSet, dPar, dRet, dIfS, dV, dC, dNil, dCons, dTup, dLst, dAnd, dOr, dNot, dIf, dAndT, dOrT, dNotT, dB, asB, dOp, dCb, dIsi, dCall, dACons, dANil, dAPen, dSl, dP, dNoP, asI, dAsg, gtN, gtT, gtNs, dSeq, asSeq, dIt, dYes, dRev, dNeg, gNeg, if_true, if_false, reduceIte, reduceCtorEq, few_ok, Nat.reduceLeDiff, Nat.zero_le, eA, at0, str_yes (x := "send") (z := "send") (by decide +kernel)]
          have t1 : (dB (dOp gNe (dIxO 7 (dOp gIx (dV 5) (dC (.int 1)))) (dTup dNil))) [.d P, .d L, .d (.int m), .d (.int i), .d (.int s.fr), .d (eA (.send j d)), .d (.int s.to), .own (ws.map tupI)] = Mo.pure true := by
            simp only [Mo.bind_assoc, Mo.pure_bind, Mo.of_some, Mo.bad_bind, Mo.raise_bind, Mo.nox_pure, Mo.nox_bind, Mo.nox_nox, Mo.nox_bad, initF, argSl, List.map_cons, List.map_nil, List.length_cons, List.length_nil, Nat.reduceSub, Nat.reduceAdd, List.replicate_succ, List.replicate_zero, List.cons_append, List.nil_append, List.append_nil, List.getElem?_cons_zero, List.getElem?_cons_succ, List.set_cons_zero, List.set_cons_succ, slD, slP, slO, dThen, dSkip, dSet, dPar, dRet, dIfS, dV, dC, dNil, dCons, dTup, dLst, dAnd, dOr, dNot, dIf, dAndT, dOrT, dNotT, dB, asB, dOp, dCb, dIsi, dCall, dACons, dANil, dAPen, dSl, dP, dNoP, asI, dAsg, gtN, gtT, gtNs, dSeq, asSeq, dIt, dYes, dRev, dNeg, gNeg, if_true, if_false, reduceIte, reduceCtorEq, few_ok, Nat.reduceLeDiff, Nat.zero_le, o2, hne]
          have t2 : (dB (dOp gLe (dOp gIx (dIxO 7 (dOp gIx (dV 5) (dC (.int 1)))) (dNeg (dC (.int 1)))) (dOp gIx (dV 5) (dC (.int 2))))) [.d P, .d L, .d (.int m), .d (.int i), .d (.int s.fr), .d (eA (.send j d)), .d (.int s.to), .own (ws.map tupI)] = Mo.pure (decide (y ≤ d)) := by
            have k2 : (dOp gIx (dV 5) (dC (.int 2))) [.d P, .d L, .d (.int m), .d (.int i), .d (.int s.fr), .d (eA (.send j d)), .d (.int s.to), .own (ws.map tupI)] = Mo.pure (.int d) := by simp only [Mo.bind_assoc, Mo.pure_bind, Mo.of_some, Mo.bad_bind, Mo.raise_bind, Mo.nox_pure, Mo.nox_bind, Mo.nox_nox, Mo.nox_bad, initF, argSl, List.map_cons, List.map_nil, List.length_cons, List.length_nil, Nat.reduceSub, Nat.reduceAdd, List.replicate_succ, List.replicate_zero, List.cons_append, List.nil_append, List.append_nil, List.getElem?_cons_zero, List.getElem?_cons_succ, List.set_cons_zero, List.set_cons_succ, slD, slP, slO, dThen, dSkip, dSet, dPar, dRet, dIfS, dV, dC, dNil, dCons, dTup, dLst, dAnd, dOr, dNot, dIf, dAndT, dOrT, dNotT, dB, asB, dOp, dCb, dIsi, dCall, dACons, dANil, dAPen, dSl, dP, dNoP, asI, dAsg, gtN, gtT, gtNs, dSeq, asSeq, dIt, dYes, dRev, dNeg, gNeg, if_true, if_false, reduceIte, reduceCtorEq, few_ok, Nat.reduceLeDiff, Nat.zero_le, eA, at2]
            unfold dB
            show (((dOp gIx (dIxO 7 (dOp gIx (dV 5) (dC (.int 1)))) (dNeg (dC (.int 1)))) _).bind _).bind _ = _
            have k3 : (dOp gIx (dIxO 7 (dOp gIx (dV 5) (dC (.int 1)))) (dNeg (dC (.int 1)))) [.d P, .d L, .d (.int m), .d (.int i), .d (.int s.fr), .d (eA (.send j d)), .d (.int s.to), .own (ws.map tupI)] = Mo.pure (.int y) := by
              simp only [Mo.bind_assoc, Mo.pure_bind, Mo.of_some, Mo.bad_bind, Mo.raise_bind, Mo.nox_pure, Mo.nox_bind, Mo.nox_nox, Mo.nox_bad, initF, argSl, List.map_cons, List.map_nil, List.length_cons, List.length_nil, Nat.reduceSub, Nat.reduceAdd, List.replicate_succ, List.replicate_zero, List.cons_append, List.nil_append, List.append_nil, List.getElem?_cons_zero, List.getElem?_cons_succ, List.set_cons_zero, List.set_cons_succ, slD, slP, slO, dThen, dSkip, dSet, dPar, dRet, dIfS, dV, dC, dNil, dCons, dTup, dLst, dAnd, dOr, dNot, dIf, dAndT, dOrT, dNotT, dB, asB, dOp, dCb, dIsi, dCall, dACons, dANil, dAPen, dSl, dP, dNoP, asI, dAsg, gtN, gtT, gtNs, dSeq, asSeq, dIt, dYes, dRev, dNeg, gNeg, if_true, if_false, reduceIte, reduceCtorEq, few_ok, Nat.reduceLeDiff, Nat.zero_le, o2, ix_last z]
            rw [k3, Mo.pure_bind, k2]
            rfl
          have t3 : ∀ u v : DT, ∀ fm, u fm = Mo.pure true → dAndT u v fm = v fm := fun u v fm h => by unfold dAndT; rw [h]; rfl
          cases k : decide (y ≤ d) with
          | true =>
            have e : wB ws (.send j d) = some (ws.set j.toNat w.dropLast) := by simp only [wB, ew, z, if_pos (of_decide_eq_true k)]
            rw [e]
            rw [k] at t2
            have t4 := (t3 _ _ _ t0).trans ((t3 _ _ _ t1).trans t2)
            have fin := lot_back_end (i := i) (P := P) (fr := s.fr) (ws := ws.set j.toNat w.dropLast) (x5 := .d (eA (.send j d))) (x6 := .d (.int s.to)) hL hpn hp3
            rw [← map_set'] at fin
            refine (then_do t4 (ixs7 ?_ a1 (in_w hj))).trans fin
            simp only [Mo.bind_assoc, Mo.pure_bind, Mo.of_some, Mo.bad_bind, Mo.raise_bind, Mo.nox_pure, Mo.nox_bind, Mo.nox_nox, Mo.nox_bad, initF, argSl, List.map_cons, List.map_nil, List.length_cons, List.length_nil, Nat.reduceSub, Nat.reduceAdd, List.replicate_succ, List.replicate_zero, List.cons_append, List.nil_append, List.append_nil, List.getElem?_cons_zero, List.getElem?_cons_succ, List.set_cons_zero, List.set_cons_succ, slD, slP, slO, dThen, dSkip, dSet, dPar, dRet, dIfS, dV, dC, dNil, dCons, dTup, dLst, dAnd, dOr, dNot, dIf, dAndT, dOrT, dNotT, dB, asB, dOp, dCb, dIsi, dCall, dACons, dANil, dAPen, dSl, dP, dNoP, asI, dAsg, gtN, gtT, gtNs, dSeq, asSeq, dIt, dYes, dRev, dNeg, gNeg, if_true, if_false, reduceIte, reduceCtorEq, few_ok, Nat.reduceLeDiff, Nat.zero_le, o2, sl_init]
          | false =>
            have e : wB ws (.send j d) = some ws := by simp only [wB, ew, z, if_neg (of_decide_eq_false k)]
            rw [e]
            rw [k] at t2
            exact (then_skip ((t3 _ _ _ t0).trans ((t3 _ _ _ t1).trans t2))).trans (lot_back_end hL hpn hp3)
    | take j d =>
      rw [ha] at g1
      have hj : In ws.length j := by have k := ok.ac; rw [ha] at k; rw [hin]; exact k.1
      obtain ⟨w, ew⟩ := get_in hj
      have a1 : (dOp gIx (dV 5) (dC (.int 1))) [.d P, .d L, .d (.int m), .d (.int i), .d (.int s.fr), .d (eA (.take j d)), .d (.int s.to), .own (ws.map tupI)] = Mo.pure (.int j) := by simp only [Mo.bind_assoc, Mo.pure_bind, Mo.of_some, Mo.bad_bind, Mo.raise_bind, Mo.nox_pure, Mo.nox_bind, Mo.nox_nox, Mo.nox_bad, initF, argSl, List.map_cons, List.map_nil, List.length_cons, List.length_nil, Nat.reduceSub, Nat.reduceAdd, List.replicate_succ, List.replicate_zero, List.cons_append, List.nil_append, List.append_nil, List.getElem?_cons_zero, List.getElem?_cons_succ, List.set_cons_zero, List.set_cons_succ, slD, slP, slO, dThen, dSkip, dSet, dPar, dRet, dIfS, dV, dC, dNil, dCons, dTup, dLst, dAnd, dOr, dNot, dIf, dAndT, dOrT, dNotT, dB, asB, dOp, dCb, dIsi, dCall, dACons, dANil, dAPen, dSl, dP, dNoP, asI, dAsg, gtN, gtT, gtNs, dSeq, asSeq, dIt, dYes, dRev, dNeg, gNeg, if_true, if_false, reduceIte, reduceCtorEq, few_ok, Nat.reduceLeDiff, Nat.zero_le, eA, at1]
      have o2 : dIxO 7 _ [.d P, .d L, .d (.int m), .d (.int i), .d (.int s.fr), .d (eA (.take j d)), .d (.int s.to), .own (ws.map tupI)] = Mo.pure (tupI w) := ixo7 a1 (in_w hj) (get_w ew)
      have e : wB ws (.take j d) = some (ws.set j.toNat (d :: w)) := by simp only [wB, ew]
      have hw := (hl.ws w (List.mem_of_getElem? ew)).2
      rw [e]
      have fin : ∀ x5, dFrz 7 _ [.d P, .d L, .d (.int m), .d (.int i), .d (.int s.fr), x5, .d (.int s.to), .own ((ws.set j.toNat (d :: w)).map tupI)] = _ := fun x5 => lot_back_end (i := i) (P := P) (fr := s.fr) (ws := ws.set j.toNat (d :: w)) (x6 := .d (.int s.to)) hL hpn hp3
      refine (then_skip ((or_f g1).trans ?_)).trans ((then_do ?_ (ixs7 (y := tupI (d :: w)) ?_ a1 (in_w hj))).trans ((then_skip ?_).trans ?_))
      · simp only [Mo.bind_assoc, Mo.pure_bind, Mo.of_some, Mo.bad_bind, Mo.raise_bind, Mo.nox_pure, Mo.nox_bind, Mo.nox_nox, Mo.nox_bad, initF, argSl, List.map_cons, List.map_nil, List.length_cons, List.length_nil, Nat.reduceSub, Nat.reduceAdd, List.replicate_succ, List.replicate_zero, List.cons_append, List.nil_append, List.append_nil, List.getElem?_cons_zero, List.getElem?_cons_succ, List.set_cons_zero, List.set_cons_succ, slD, slP, slO, dThen, dSkip, dSet, dPar, dRet, dIfS, dV, dC, dNil, dCons, dTup, dLst, dAnd, dOr, dNot, dIf, dAndT, dOrT, dNotT, dB, asB, dOp, dCb, dIsi, dCall, dACons, dANil, dAPen, dSl, dP, dNoP, asI, dAsg, gtN, gtT, gtNs, dSeq, asSeq, dIt, dYes, dRev, dNeg, gNeg, if_true, if_false, reduceIte, reduceCtorEq, few_ok, Nat.reduceLeDiff, Nat.zero_le, eA, at0, str_no (x := "take") (z := "test") (by decide +kernel)]
      · simp only [Mo.bind_assoc, Mo.pure_bind, Mo.of_some, Mo.bad_bind, Mo.raise_bind, Mo.nox_pure, Mo.nox_bind, Mo.nox_nox, Mo.nox_bad, initF, argSl, List.map_cons, List.map_nil, List.length_cons, List.length_nil, Nat.reduceSub, Nat.reduceAdd, List.replicate_succ, List.replicate_zero, List.cons_append, List.nil_append, List.append_nil, List.getElem?_cons_zero, List.getElem?_cons_succ, List.set_cons_zero, List.set_cons_succ, slD, slP, slO, dThen, dSkip, dSet, dPar, dRet, dIfS, dV, dC, dNil, dCons, dTup, dLst, dAnd, dOr, dNot, dIf, dAndT, dOrT, dNotT, dB, asB, dOp, dCb, dIsi, dCall, dACons, dANil, dAPen, dSl, dP, dNoP, asI, dAsg, gtN, gtT, gtNs, dSeq, asSeq, dIt, dYes, dRev, dNeg, gNeg, if_true, if_false, reduceIte, reduceCtorEq, few_ok, Nat.reduceLeDiff, Nat.zero_le, eA, at0, str_yes (x := "take") (z := "take") (by decide +kernel)]
      · have k2 : (dOp gIx (dV 5) (dC (.int 2))) [.d P, .d L, .d (.int m), .d (.int i), .d (.int s.fr), .d (eA (.take j d)), .d (.int s.to), .own (ws.map tupI)] = Mo.pure (.int d) := by simp only [Mo.bind_assoc, Mo.pure_bind, Mo.of_some, Mo.bad_bind, Mo.raise_bind, Mo.nox_pure, Mo.nox_bind, Mo.nox_nox, Mo.nox_bad, initF, argSl, List.map_cons, List.map_nil, List.length_cons, List.length_nil, Nat.reduceSub, Nat.reduceAdd, List.replicate_succ, List.replicate_zero, List.cons_append, List.nil_append, List.append_nil, List.getElem?_cons_zero, List.getElem?_cons_succ, List.set_cons_zero, List.set_cons_succ, slD, slP, slO, dThen, dSkip, dSet, dPar, dRet, dIfS, dV, dC, dNil, dCons, dTup, dLst, dAnd, dOr, dNot, dIf, dAndT, dOrT, dNotT, dB, asB, dOp, dCb, dIsi, dCall, dACons, dANil, dAPen, dSl, dP, dNoP, asI, dAsg, gtN, gtT, gtNs, dSeq, asSeq, dIt, dYes, dRev, dNeg, gNeg, if_true, if_false, reduceIte, reduceCtorEq, few_ok, Nat.reduceLeDiff, Nat.zero_le, eA, at2]
        simp only [Mo.bind_assoc, Mo.pure_bind, Mo.of_some, Mo.bad_bind, Mo.raise_bind, Mo.nox_pure, Mo.nox_bind, Mo.nox_nox, Mo.nox_bad, initF, argSl, List.map_cons, List.map_nil, List.length_cons, List.length_nil, Nat.reduceSub, Nat.reduceAdd, List.replicate_succ, List.replicate_zero, List.cons_append, List.nil_append, List.append_nil, List.getElem?_cons_zero, List.getElem?_cons_succ, List.set_cons_zero, List.set_cons_succ, slD, slP, slO, dThen, dSkip, dSet, dPar, dRet, dIfS, dV, dC, dNil, dCons, dTup, dLst, dAnd, dOr, dNot, dIf, dAndT, dOrT, dNotT, dB, asB, dOp, dCb, dIsi, dCall, dACons, dANil, dAPen, dSl, dP, dNoP, asI, dAsg, gtN, gtT, gtNs, dSeq, asSeq, dIt, dYes, dRev, dNeg, gNeg, if_true, if_false, reduceIte, reduceCtorEq, few_ok, Nat.reduceLeDiff, Nat.zero_le, k2, o2, add_front (w := w) (c := d) (by omega)]
        have k2' := k2
        have o2' := o2
        unfold eA at k2' o2' ⊢
        simp only [Mo.bind_assoc, Mo.pure_bind, Mo.of_some, Mo.bad_bind, Mo.raise_bind, Mo.nox_pure, Mo.nox_bind, Mo.nox_nox, Mo.nox_bad, initF, argSl, List.map_cons, List.map_nil, List.length_cons, List.length_nil, Nat.reduceSub, Nat.reduceAdd, List.replicate_succ, List.replicate_zero, List.cons_append, List.nil_append, List.append_nil, List.getElem?_cons_zero, List.getElem?_cons_succ, List.set_cons_zero, List.set_cons_succ, slD, slP, slO, dThen, dSkip, dSet, dPar, dRet, dIfS, dV, dC, dNil, dCons, dTup, dLst, dAnd, dOr, dNot, dIf, dAndT, dOrT, dNotT, dB, asB, dOp, dCb, dIsi, dCall, dACons, dANil, dAPen, dSl, dP, dNoP, asI, dAsg, gtN, gtT, gtNs, dSeq, asSeq, dIt, dYes, dRev, dNeg, gNeg, if_true, if_false, reduceIte, reduceCtorEq, few_ok, Nat.reduceLeDiff, Nat.zero_le, at2, at1, o2', add_front (w := w) (c := d) (by omega)]
      · simp only [Mo.bind_assoc, Mo.pure_bind, Mo.of_some, Mo.bad_bind, Mo.raise_bind, Mo.nox_pure, Mo.nox_bind, Mo.nox_nox, Mo.nox_bad, initF, argSl, List.map_cons, List.map_nil, List.length_cons, List.length_nil, Nat.reduceSub, Nat.reduceAdd, List.replicate_succ, List.replicate_zero, List.cons_append, List.nil_append, List.append_nil, List.getElem?_cons_zero, List.getElem?_cons_succ, List.set_cons_zero, List.set_cons_succ, slD, slP, slO, dThen, dSkip, dSet, dPar, dRet, dIfS, dV, dC, dNil, dCons, dTup, dLst, dAnd, dOr, dNot, dIf, dAndT, dOrT, dNotT, dB, asB, dOp, dCb, dIsi, dCall, dACons, dANil, dAPen, dSl, dP, dNoP, asI, dAsg, gtN, gtT, gtNs, dSeq, asSeq, dIt, dYes, dRev, dNeg, gNeg, if_true, if_false, reduceIte, reduceCtorEq, few_ok, Nat.reduceLeDiff, Nat.zero_le, eA, at0, str_no (x := "take") (z := "send") (by decide +kernel)]
      · rw [map_set']
        exact fin _
    | test j =>
      rw [ha] at g1
      have hj : In ws.length j := by have k := ok.ac; rw [ha] at k; rw [hin]; exact k
      obtain ⟨w, ew⟩ := get_in hj
      have a1 : (dOp gIx (dV 5) (dC (.int 1))) [.d P, .d L, .d (.int m), .d (.int i), .d (.int s.fr), .d (eA (.test j)), .d (.int s.to), .own (ws.map tupI)] = Mo.pure (.int j) := by simp only [Mo.bind_assoc, Mo.pure_bind, Mo.of_some, Mo.bad_bind, Mo.raise_bind, Mo.nox_pure, Mo.nox_bind, Mo.nox_nox, Mo.nox_bad, initF, argSl, List.map_cons, List.map_nil, List.length_cons, List.length_nil, Nat.reduceSub, Nat.reduceAdd, List.replicate_succ, List.replicate_zero, List.cons_append, List.nil_append, List.append_nil, List.getElem?_cons_zero, List.getElem?_cons_succ, List.set_cons_zero, List.set_cons_succ, slD, slP, slO, dThen, dSkip, dSet, dPar, dRet, dIfS, dV, dC, dNil, dCons, dTup, dLst, dAnd, dOr, dNot, dIf, dAndT, dOrT, dNotT, dB, asB, dOp, dCb, dIsi, dCall, dACons, dANil, dAPen, dSl, dP, dNoP, asI, dAsg, gtN, gtT, gtNs, dSeq, asSeq, dIt, dYes, dRev, dNeg, gNeg, if_true, if_false, reduceIte, reduceCtorEq, few_ok, Nat.reduceLeDiff, Nat.zero_le, eA, at1]
      have o2 : dIxO 7 _ [.d P, .d L, .d (.int m), .d (.int i), .d (.int s.fr), .d (eA (.test j)), .d (.int s.to), .own (ws.map tupI)] = Mo.pure (tupI w) := ixo7 a1 (in_w hj) (get_w ew)
      have t0 : (dB (dOp gEq (dOp gIx (dV 5) (dC (.int 0))) (dC (.str "test")))) [.d P, .d L, .d (.int m), .d (.int i), .d (.int s.fr), .d (eA (.test j)), .d (.int s.to), .own (ws.map tupI)] = Mo.pure true := by
        simp only [Mo.bind_assoc, Mo.pure_bind, Mo.of_some, Mo.bad_bind, Mo.raise_bind, Mo.nox_pure, Mo.nox_bind, Mo.nox_nox, Mo.nox_bad, initF, argSl, List.map_cons, List.map_nil, List.length_cons, List.length_nil, Nat.reduceSub, Nat.reduceAdd, List.replicate_succ, List.replicate_zero, List.cons_append, List.nil_append, List.append_nil, List.getElem?_cons_zero, List.getElem?_cons_succ, List.set_cons_zero, List.set_cons_succ, slD, slP, slO, dThen, dSkip, dSet, dPar, dRet, dIfS, dV, dC, dNil, dCons, dTup, dLst, dAnd, dOr, dNot, dIf, dAndT, dOrT, dNotT, dB, asB, dOp, dCb, dIsi, dCall, dACons, dANil, dAPen, dSl, dP, dNoP, asI, dAsg, gtN, gtT, gtNs, dSeq, asSeq, dIt, dYes, dRev, dNeg, gNeg, if_true, if_false, reduceIte, reduceCtorEq, few_ok, Nat.reduceLeDiff, Nat.zero_le, eA, at0, str_yes (x := "test") (z := "test") (by decide +kernel)]
      have t1 : (dB (dOp gNe (dIxO 7 (dOp gIx (dV 5) (dC (.int 1)))) (dTup dNil))) [.d P, .d L, .d (.int m), .d (.int i), .d (.int s.fr), .d (eA (.test j)), .d (.int s.to), .own (ws.map tupI)] = Mo.pure (!w.isEmpty) := by
        simp only [Mo.bind_assoc, Mo.pure_bind, Mo.of_some, Mo.bad_bind, Mo.raise_bind, Mo.nox_pure, Mo.nox_bind, Mo.nox_nox, Mo.nox_bad, initF, argSl, List.map_cons, List.map_nil, List.length_cons, List.length_nil, Nat.reduceSub, Nat.reduceAdd, List.replicate_succ, List.replicate_zero, List.cons_append, List.nil_append, List.append_nil, List.getElem?_cons_zero, List.getElem?_cons_succ, List.set_cons_zero, List.set_cons_succ, slD, slP, slO, dThen, dSkip, dSet, dPar, dRet, dIfS, dV, dC, dNil, dCons, dTup, dLst, dAnd, dOr, dNot, dIf, dAndT, dOrT, dNotT, dB, asB, dOp, dCb, dIsi, dCall, dACons, dANil, dAPen, dSl, dP, dNoP, asI, dAsg, gtN, gtT, gtNs, dSeq, asSeq, dIt, dYes, dRev, dNeg, gNeg, if_true, if_false, reduceIte, reduceCtorEq, few_ok, Nat.reduceLeDiff, Nat.zero_le, o2, gNe_nilT]
      have t3 : ∀ u v : DT, ∀ fm, u fm = Mo.pure true → dAndT u v fm = v fm := fun u v fm h => by unfold dAndT; rw [h]; rfl
      cases w with
      | cons y r =>
        have e : wB ws (.test j) = none := by simp only [wB, ew]; rfl
        rw [e]
        exact then_ret (x := .list []) ((or_f g1).trans ((t3 _ _ _ t0).trans t1)) rfl
      | nil =>
        have e : wB ws (.test j) = some ws := by simp only [wB, ew]; rfl
        rw [e]
        refine (then_skip ((or_f g1).trans ((t3 _ _ _ t0).trans t1))).trans ((then_skip ?_).trans ((then_skip ?_).trans (lot_back_end hL hpn hp3)))
        · simp only [Mo.bind_assoc, Mo.pure_bind, Mo.of_some, Mo.bad_bind, Mo.raise_bind, Mo.nox_pure, Mo.nox_bind, Mo.nox_nox, Mo.nox_bad, initF, argSl, List.map_cons, List.map_nil, List.length_cons, List.length_nil, Nat.reduceSub, Nat.reduceAdd, List.replicate_succ, List.replicate_zero, List.cons_append, List.nil_append, List.append_nil, List.getElem?_cons_zero, List.getElem?_cons_succ, List.set_cons_zero, List.set_cons_succ, slD, slP, slO, dThen, dSkip, dSet, dPar, dRet, dIfS, dV, dC, dNil, dCons, dTup, dLst, dAnd, dOr, dNot, dIf, dAndT, dOrT, dNotT, dB, asB, dOp, dCb, dIsi, dCall, dACons, dANil, dAPen, dSl, dP, dNoP, asI, dAsg, gtN, gtT, gtNs, dSeq, asSeq, dIt, dYes, dRev, dNeg, gNeg, if_true, if_false, reduceIte, reduceCtorEq, few_ok, Nat.reduceLeDiff, Nat.zero_le, eA, at0, str_no (x := "test") (z := "take") (by decide +kernel)]
        · simp only [Mo.bind_assoc, Mo.pure_bind, Mo.of_some, Mo.bad_bind, Mo.raise_bind, Mo.nox_pure, Mo.nox_bind, Mo.nox_nox, Mo.nox_bad, initF, argSl, List.map_cons, List.map_nil, List.length_cons, List.length_nil, Nat.reduceSub, Nat.reduceAdd, List.replicate_succ, List.replicate_zero, List.cons_append, List.nil_append, List.append_nil, List.getElem?_cons_zero, List.getElem?_cons_succ, List.set_cons_zero, List.set_cons_succ, slD, slP, slO, dThen, dSkip, dSet, dPar, dRet, dIfS, dV, dC, dNil, dCons, dTup, dLst, dAnd, dOr, dNot, dIf, dAndT, dOrT, dNotT, dB, asB, dOp, dCb, dIsi, dCall, dACons, dANil, dAPen, dSl, dP, dNoP, asI, dAsg, gtN, gtT, gtNs, dSeq, asSeq, dIt, dYes, dRev, dNeg, gNeg, if_true, if_false, reduceIte, reduceCtorEq, few_ok, Nat.reduceLeDiff, Nat.zero_le, eA, at0, str_no (x := "test") (z := "send") (by decide +kernel)]
    | rest =>
      rw [ha] at g1
      have e : wB ws .rest = some ws := rfl
      rw [e]
      refine (then_skip ((or_f g1).trans ?_)).trans ((then_skip ?_).trans ((then_skip ?_).trans (lot_back_end hL hpn hp3)))
      · simp only [Mo.bind_assoc, Mo.pure_bind, Mo.of_some, Mo.bad_bind, Mo.raise_bind, Mo.nox_pure, Mo.nox_bind, Mo.nox_nox, Mo.nox_bad, initF, argSl, List.map_cons, List.map_nil, List.length_cons, List.length_nil, Nat.reduceSub, Nat.reduceAdd, List.replicate_succ, List.replicate_zero, List.cons_append, List.nil_append, List.append_nil, List.getElem?_cons_zero, List.getElem?_cons_succ, List.set_cons_zero, List.set_cons_succ, slD, slP, slO, dThen, dSkip, dSet, dPar, dRet, dIfS, dV, dC, dNil, dCons, dTup, dLst, dAnd, dOr, dNot, dIf, dAndT, dOrT, dNotT, dB, asB, dOp, dCb, dIsi, dCall, dACons, dANil, dAPen, dSl, dP, dNoP, asI, dAsg, gtN, gtT, gtNs, dSeq, asSeq, dIt, dYes, dRev, dNeg, gNeg, if_true, if_false, reduceIte, reduceCtorEq, few_ok, Nat.reduceLeDiff, Nat.zero_le, eA, at0, str_no (x := "rest") (z := "test") (by decide +kernel)]
      · simp only [Mo.bind_assoc, Mo.pure_bind, Mo.of_some, Mo.bad_bind, Mo.raise_bind, Mo.nox_pure, Mo.nox_bind, Mo.nox_nox, Mo.nox_bad, initF, argSl, List.map_cons, List.map_nil, List.length_cons, List.length_nil, Nat.reduceSub, Nat.reduceAdd, List.replicate_succ, List.replicate_zero, List.cons_append, List.nil_append, List.append_nil, List.getElem?_cons_zero, List.getElem?_cons_succ, List.set_cons_zero, List.set_cons_succ, slD, slP, slO, dThen, dSkip, dSet, dPar, dRet, dIfS, dV, dC, dNil, dCons, dTup, dLst, dAnd, dOr, dNot, dIf, dAndT, dOrT, dNotT, dB, asB, dOp, dCb, dIsi, dCall, dACons, dANil, dAPen, dSl, dP, dNoP, asI, dAsg, gtN, gtT, gtNs, dSeq, asSeq, dIt, dYes, dRev, dNeg, gNeg, if_true, if_false, reduceIte, reduceCtorEq, few_ok, Nat.reduceLeDiff, Nat.zero_le, eA, at0, str_no (x := "rest") (z := "take") (by decide +kernel)]
      · simp only [Mo.bind_assoc, Mo.pure_bind, Mo.of_some, Mo.bad_bind, Mo.raise_bind, Mo.nox_pure, Mo.nox_bind, Mo.nox_nox, Mo.nox_bad, initF, argSl, List.map_cons, List.map_nil, List.length_cons, List.length_nil, Nat.reduceSub, Nat.reduceAdd, List.replicate_succ, List.replicate_zero, List.cons_append, List.nil_append, List.append_nil, List.getElem?_cons_zero, List.getElem?_cons_succ, List.set_cons_zero, List.set_cons_succ, slD, slP, slO, dThen, dSkip, dSet, dPar, dRet, dIfS, dV, dC, dNil, dCons, dTup, dLst, dAnd, dOr, dNot, dIf, dAndT, dOrT, dNotT, dB, asB, dOp, dCb, dIsi, dCall, dACons, dANil, dAPen, dSl, dP, dNoP, asI, dAsg, gtN, gtT, gtNs, dSeq, asSeq, dIt, dYes, dRev, dNeg, gNeg, if_true, if_false, reduceIte, reduceCtorEq, few_ok, Nat.reduceLeDiff, Nat.zero_le, eA, at0, str_no (x := "rest") (z := "send") (by decide +kernel)]
end
end Rf

set_option maxRecDepth 100000
set_option maxHeartbeats 4000000
namespace Rf
open PySem PySem.Spec PyProof.Rows L2 Gd Dt Dl Ee Sd
/-! ### drawn rows, with types -/
theorem ex_map {α : Type} {φ : PyData → Prop} {en : α → PyData} {P : α → Prop} (h : ∀ y, φ y → ∃ a, y = en a ∧ P a) : ∀ ys : List PyData, (∀ y ∈ ys, φ y) → ∃ as : List α, ys = as.map en ∧ ∀ a ∈ as, P a
  | [], _ => ⟨[], rfl, fun _ h => absurd h List.not_mem_nil⟩
  | y :: ys, k => by
    obtain ⟨a, e, pa⟩ := h y (k y List.mem_cons_self)
    obtain ⟨as, e2, pas⟩ := ex_map h ys fun z hz => k z (List.mem_cons_of_mem _ hz)
    refine ⟨a :: as, by rw [e, e2]; rfl, fun x hx => ?_⟩
    rcases List.mem_cons.mp hx with rfl | hx
    · exact pa
    · exact pas x hx
inductive All2 {α β : Type} (R : α → β → Prop) : List α → List β → Prop
  | nil : All2 R [] []
  | cons {a : α} {b : β} {as : List α} {bs : List β} (h : R a b) (t : All2 R as bs) : All2 R (a :: as) (b :: bs)
theorem Y.lcR {α β : Type} {g : Gt} {e : DE} {fm : Fm} {en : α → PyData} {eb : β → PyData} {R : α → β → Prop} : ∀ (xs : List α), (∀ x ∈ xs, ∃ f1, g (en x) fm = some f1 ∧ Y (e f1) fun y => ∃ b, y = eb b ∧ R x b) → Y (lcGo g dYes e fm (xs.map en)) fun ys => ∃ bs, ys = bs.map eb ∧ All2 R xs bs
  | [], _ => .pure ⟨[], rfl, .nil⟩
  | x :: xs, h => by
    obtain ⟨f1, e1, ye⟩ := h x List.mem_cons_self
    have r := Y.lcR xs fun y hy => h y (List.mem_cons_of_mem _ hy)
    refine Y.bind (.of e1 rfl) fun f1' z => ?_
    subst z
    refine Y.bind (Y.nox (.pure rfl)) fun b z => ?_
    subst z
    refine Y.bind ye.nox fun y py => Y.bind r fun ys p => ?_
    obtain ⟨b, rfl, hb⟩ := py
    obtain ⟨bs, rfl, hbs⟩ := p
    exact .pure ⟨b :: bs, rfl, .cons hb hbs⟩
/-- a comprehension over a row of drawn length -/
theorem Y.lcm {di : DL} {g : Gt} {vs : List Nat} {e : DE} {fm : Fm} {M : Nat} {P : PyData → Prop} {φ : PyData → Prop} (h : Y (di fm) fun xs => (∀ x ∈ xs, P x) ∧ xs.length ≤ M) (hM : M ≤ 40000) (k : ∀ x, P x → ∃ f1, g x (wipeF fm vs) = some f1 ∧ Y (e f1) φ) : Y (dLc di g vs dYes e fm) fun d => ∃ ys, d = .list ys ∧ (∀ y ∈ ys, φ y) ∧ ys.length ≤ M := by
  unfold dLc dLcL
  rw [Mo.bind_assoc]
  refine Y.bind h fun xs hx => ?_
  rw [few_ok (Nat.le_trans hx.2 hM), Mo.of_some, Mo.pure_bind]
  refine Y.bind (Y.lcA xs fun x m => k x (hx.1 x m)).nox fun ys hy => .pure ⟨ys, rfl, hy.1, by rw [hy.2]; exact hx.2⟩
theorem Y.lcN {di : DL} {g : Gt} {vs : List Nat} {e : DE} {fm : Fm} {xs : List PyData} {φ : PyData → Prop} (h : di fm = Mo.pure xs) (hM : xs.length ≤ 40000) (k : ∀ x ∈ xs, ∃ f1, g x (wipeF fm vs) = some f1 ∧ Y (e f1) φ) : Y (dLc di g vs dYes e fm) fun d => ∃ ys, d = .list ys ∧ (∀ y ∈ ys, φ y) ∧ ys.length = xs.length := by
  unfold dLc dLcL
  rw [Mo.bind_assoc, h, Mo.pure_bind, few_ok hM, Mo.of_some, Mo.pure_bind]
  exact Y.bind (Y.lcA xs k).nox fun ys hy => .pure ⟨ys, rfl, hy.1, hy.2⟩
def IntIn (b : Int) : PyData → Prop := fun d => ∃ z, d = .int z ∧ In b z
theorem draw_in (ns : List Int) {b : Int} (h0 : 0 < b) (h1 : b ≤ 1000) : Y (f_law_draw [.pen ns, .d (.int b)]) (IntIn b) := (draw_ok ns h0 (by omega)).imp fun d h => by
  obtain ⟨z, rfl, h2, h3⟩ := h
  exact ⟨z, rfl, h2, h3⟩
theorem ran_go {fm : Fm} {ds : DL} {z : Int} {M : Nat} (h : ds fm = Mo.pure [.int z]) (h0 : 0 ≤ z) (h1 : z ≤ M) (hM : M ≤ 1000) : dIt asR1 ds fm = Mo.pure (upto 0 z.toNat) := by
  unfold dIt
  rw [h, Mo.pure_bind, range_ok h0 h1 hM]
  rfl
theorem Y.ran {fm : Fm} {ds : DL} {b : Int} {M : Nat} (h : Y (ds fm) fun xs => ∃ z, xs = [.int z] ∧ In b z) (hb : b ≤ M + 1) (hM : M ≤ 1000) : Y (dIt asR1 ds fm) fun xs => (∀ x ∈ xs, True) ∧ xs.length ≤ M := by
  unfold dIt
  refine Y.bind h fun xs hx => ?_
  obtain ⟨z, rfl, z0, z1⟩ := hx
  rw [range_ok (M := M) z0 (by omega) hM]
  exact .pure ⟨fun _ _ => trivial, by rw [upto_len]; omega⟩
theorem Y.cons1 {d : DE} {fm : Fm} {φ : PyData → Prop} (h : Y (d fm) φ) : Y (dCons d dNil fm) fun xs => ∃ x, xs = [x] ∧ φ x := by
  unfold dCons
  exact Y.bind h fun x hx => .pure ⟨x, rfl, hx⟩
theorem Y.tupOf {d : DE} {fm : Fm} {φ : List PyData → Prop} (h : Y (d fm) fun x => ∃ ys, x = .list ys ∧ φ ys) : Y (dCb gTupOf (dCons d dNil) fm) fun x => ∃ ys, x = .tuple ys ∧ φ ys := by
  unfold dCb
  refine Y.bind (Y.cons1 h) fun xs hx => ?_
  obtain ⟨x, rfl, ys, rfl, hy⟩ := hx
  exact .of (x := .tuple ys) rfl ⟨ys, rfl, hy⟩
theorem word_ok (ns : List Int) {l : Int} {n : Nat} (h0 : 0 < l) (h1 : l ≤ 100) (hn : n ≤ 100) : Y (f_law_drawn_word [.pen ns, .d (.int l), .d (.int (n : Nat))]) fun d => ∃ w, d = tupI w ∧ WOk l n w := by
  refine Y.fn (Y.bind (φ := fun d => ∃ w, d = tupI w ∧ WOk l n w) ?_ fun d hd => .pure ⟨d, rfl, hd⟩)
  refine Y.imp (Y.tupOf (φ := fun ys => (∀ y ∈ ys, IntIn l y) ∧ ys.length ≤ n) ?_) fun d hd => ?_
  · refine Y.lcm (P := fun _ => True) (Y.ran (b := (n : Int) + 1) (M := n) ?_ (by omega) (by omega)) (by omega) fun x _ => ⟨_, rfl, ?_⟩
    · refine (Y.cons1 (φ := IntIn ((n : Int) + 1)) ?_).imp fun xs hx => ?_
      · simp only [Mo.bind_assoc, Mo.pure_bind, Mo.of_some, Mo.bad_bind, Mo.raise_bind, Mo.nox_pure, Mo.nox_bind, Mo.nox_nox, Mo.nox_bad, initF, argSl, List.map_cons, List.map_nil, List.length_cons, List.length_nil, Nat.reduceSub, Nat.reduceAdd, List.replicate_succ, List.replicate_zero, List.cons_append, List.nil_append, List.append_nil, List.getElem?_cons_zero, List.getElem?_cons_succ, List.set_cons_zero, List.set_cons_succ, slD, slP, slO, dThen, dSkip, dSet, dPar, dRet, dIfS, dV, dC, dNil, dCons, dTup, dLst, dAnd, dOr, dNot, dIf, dAndT, dOrT, dNotT, dB, asB, dOp, dCb, dIsi, dCall, dACons, dANil, dAPen, dSl, dP, dNoP, asI, dAsg, gtN, gtT, gtNs, dSeq, asSeq, dIt, dYes, dRev, dNeg, gNeg, if_true, if_false, reduceIte, reduceCtorEq, few_ok, Nat.reduceLeDiff, Nat.zero_le, gAdd]
        exact draw_in ns (b := (n : Int) + 1) (by omega) (by omega)
      · obtain ⟨x, rfl, z, rfl, hz⟩ := hx
        exact ⟨z, rfl, hz⟩
    · simp only [Mo.bind_assoc, Mo.pure_bind, Mo.of_some, Mo.bad_bind, Mo.raise_bind, Mo.nox_pure, Mo.nox_bind, Mo.nox_nox, Mo.nox_bad, initF, argSl, List.map_cons, List.map_nil, List.length_cons, List.length_nil, Nat.reduceSub, Nat.reduceAdd, List.replicate_succ, List.replicate_zero, List.cons_append, List.nil_append, List.append_nil, List.getElem?_cons_zero, List.getElem?_cons_succ, List.set_cons_zero, List.set_cons_succ, slD, slP, slO, dThen, dSkip, dSet, dPar, dRet, dIfS, dV, dC, dNil, dCons, dTup, dLst, dAnd, dOr, dNot, dIf, dAndT, dOrT, dNotT, dB, asB, dOp, dCb, dIsi, dCall, dACons, dANil, dAPen, dSl, dP, dNoP, asI, dAsg, gtN, gtT, gtNs, dSeq, asSeq, dIt, dYes, dRev, dNeg, gNeg, if_true, if_false, reduceIte, reduceCtorEq, few_ok, Nat.reduceLeDiff, Nat.zero_le, wipeF]
      exact draw_in ns h0 (by omega)
  · obtain ⟨ys, rfl, hy, hl⟩ := hd
    obtain ⟨w, rfl, hw⟩ := ex_map (en := PyData.int) (P := In l) (fun y h => h) ys hy
    exact ⟨w, rfl, hw, by simpa using hl⟩
theorem PsOk.of2 : ∀ {ms : List Mc} {is : List Int}, All2 (fun m i => In m.pl i) ms is → PsOk ms is
  | [], _, h => by cases h; trivial
  | m :: ms, _, h => by
    cases h with
    | cons h t => exact ⟨h, PsOk.of2 t⟩
theorem gl_map {α : Type} {f : α → PyData} (xs : List α) : gLen [.tuple (xs.map f)] = some (.int (xs.length : Nat)) := by
  show some (PyData.int ((xs.map f).length : Nat)) = _
  rw [List.length_map]
theorem lot_ok (ns : List Int) {p : Pg} {N n : Nat} (hp : POk N p) (hn : n ≤ 100) : Y (f_law_drawn_lot [.pen ns, .d (eP p), .d (.int (n : Nat))]) fun d => ∃ l, d = eL l ∧ LOk p n l := by
  have hln := hp.ln
  have hlt := hp.lt
  have hfew := hp.few
  have k0 : gIx (eP p) (.int 0) = some (.int p.ln) := at0
  have k1 : gIx (eP p) (.int 1) = some (.int p.lt) := at1
  have k2 : gIx (eP p) (.int 2) = some (.tuple (p.ms.map eM)) := at2
  generalize hP : eP p = P at k0 k1 k2 ⊢
  refine Y.fn ?_
  unfold b_law_drawn_lot
  refine Y.then (φ := fun f => ∃ is, PsOk p.ms is ∧ f = [.pen ns, .d P, .d (.int (n : Nat)), .d (tupI is), .no, .no]) ?_ fun f hf => ?_
  · refine Y.bind (Y.tupOf (φ := fun ys => ∃ is, ys = is.map PyData.int ∧ PsOk p.ms is) ?_) fun d hd => ?_
    · unfold dLc dLcL
      simp only [Mo.bind_assoc, Mo.pure_bind, Mo.of_some, Mo.bad_bind, Mo.raise_bind, Mo.nox_pure, Mo.nox_bind, Mo.nox_nox, Mo.nox_bad, initF, argSl, List.map_cons, List.map_nil, List.length_cons, List.length_nil, Nat.reduceSub, Nat.reduceAdd, List.replicate_succ, List.replicate_zero, List.cons_append, List.nil_append, List.append_nil, List.getElem?_cons_zero, List.getElem?_cons_succ, List.set_cons_zero, List.set_cons_succ, slD, slP, slO, dThen, dSkip, dSet, dPar, dRet, dIfS, dV, dC, dNil, dCons, dTup, dLst, dAnd, dOr, dNot, dIf, dAndT, dOrT, dNotT, dB, asB, dOp, dCb, dIsi, dCall, dACons, dANil, dAPen, dSl, dP, dNoP, asI, dAsg, gtN, gtT, gtNs, dSeq, asSeq, dIt, dYes, dRev, dNeg, gNeg, if_true, if_false, reduceIte, reduceCtorEq, few_ok, Nat.reduceLeDiff, Nat.zero_le, k2, few_ok (n := 40000) (xs := p.ms.map eM) (by rw [List.length_map]; omega), wipeF]
      refine Y.bind (Y.lcR (eb := PyData.int) (R := fun m i => In m.pl i) p.ms fun m hm => ⟨_, rfl, ?_⟩).nox fun ys hy => ?_
      · have := (hp.ms m hm).pl
        unfold eM
        simp only [Mo.bind_assoc, Mo.pure_bind, Mo.of_some, Mo.bad_bind, Mo.raise_bind, Mo.nox_pure, Mo.nox_bind, Mo.nox_nox, Mo.nox_bad, initF, argSl, List.map_cons, List.map_nil, List.length_cons, List.length_nil, Nat.reduceSub, Nat.reduceAdd, List.replicate_succ, List.replicate_zero, List.cons_append, List.nil_append, List.append_nil, List.getElem?_cons_zero, List.getElem?_cons_succ, List.set_cons_zero, List.set_cons_succ, slD, slP, slO, dThen, dSkip, dSet, dPar, dRet, dIfS, dV, dC, dNil, dCons, dTup, dLst, dAnd, dOr, dNot, dIf, dAndT, dOrT, dNotT, dB, asB, dOp, dCb, dIsi, dCall, dACons, dANil, dAPen, dSl, dP, dNoP, asI, dAsg, gtN, gtT, gtNs, dSeq, asSeq, dIt, dYes, dRev, dNeg, gNeg, if_true, if_false, reduceIte, reduceCtorEq, few_ok, Nat.reduceLeDiff, Nat.zero_le, at0]
        exact draw_in ns (by omega) (by omega)
      · obtain ⟨is, rfl, hi⟩ := hy
        exact .pure ⟨_, rfl, is, rfl, PsOk.of2 hi⟩
    · obtain ⟨_, rfl, is, rfl, hi⟩ := hd
      exact .pure ⟨_, rfl, is, hi, rfl⟩
  obtain ⟨is, hi, rfl⟩ := hf
  refine Y.bind (φ := fun d => ∃ l, d = eL l ∧ LOk p n l) ?_ fun d hd => .pure ⟨d, rfl, hd⟩
  have wd : Y (dCb gTupOf (dCons (dLc (dIt asR1 (dCons (dOp gIx (dV 1) (dC (.int 0))) dNil)) (gtN 5) [5] dYes (dCall 3 f_law_drawn_word (dAPen 0 (dACons (dOp gIx (dV 1) (dC (.int 1))) (dACons (dV 2) dANil))))) dNil) [.pen ns, .d P, .d (.int (n : Nat)), .d (tupI is), .no, .no]) fun d => ∃ ws, d = eWs ws ∧ ws.length = p.ln.toNat ∧ ∀ w ∈ ws, WOk p.lt n w := by
    refine Y.imp (Y.tupOf (φ := fun ys => (∀ y ∈ ys, ∃ w, y = tupI w ∧ WOk p.lt n w) ∧ ys.length = (upto 0 p.ln.toNat).length) ?_) fun d hd => ?_
    · refine Y.lcN (ran_go (z := p.ln) (M := 3) ?_ (by omega) (by omega) (by decide)) (by rw [upto_len]; omega) fun x _ => ⟨_, rfl, ?_⟩
      · simp only [Mo.bind_assoc, Mo.pure_bind, Mo.of_some, Mo.bad_bind, Mo.raise_bind, Mo.nox_pure, Mo.nox_bind, Mo.nox_nox, Mo.nox_bad, initF, argSl, List.map_cons, List.map_nil, List.length_cons, List.length_nil, Nat.reduceSub, Nat.reduceAdd, List.replicate_succ, List.replicate_zero, List.cons_append, List.nil_append, List.append_nil, List.getElem?_cons_zero, List.getElem?_cons_succ, List.set_cons_zero, List.set_cons_succ, slD, slP, slO, dThen, dSkip, dSet, dPar, dRet, dIfS, dV, dC, dNil, dCons, dTup, dLst, dAnd, dOr, dNot, dIf, dAndT, dOrT, dNotT, dB, asB, dOp, dCb, dIsi, dCall, dACons, dANil, dAPen, dSl, dP, dNoP, asI, dAsg, gtN, gtT, gtNs, dSeq, asSeq, dIt, dYes, dRev, dNeg, gNeg, if_true, if_false, reduceIte, reduceCtorEq, few_ok, Nat.reduceLeDiff, Nat.zero_le, k0]
      · simp only [Mo.bind_assoc, Mo.pure_bind, Mo.of_some, Mo.bad_bind, Mo.raise_bind, Mo.nox_pure, Mo.nox_bind, Mo.nox_nox, Mo.nox_bad, initF, argSl, List.map_cons, List.map_nil, List.length_cons, List.length_nil, Nat.reduceSub, Nat.reduceAdd, List.replicate_succ, List.replicate_zero, List.cons_append, List.nil_append, List.append_nil, List.getElem?_cons_zero, List.getElem?_cons_succ, List.set_cons_zero, List.set_cons_succ, slD, slP, slO, dThen, dSkip, dSet, dPar, dRet, dIfS, dV, dC, dNil, dCons, dTup, dLst, dAnd, dOr, dNot, dIf, dAndT, dOrT, dNotT, dB, asB, dOp, dCb, dIsi, dCall, dACons, dANil, dAPen, dSl, dP, dNoP, asI, dAsg, gtN, gtT, gtNs, dSeq, asSeq, dIt, dYes, dRev, dNeg, gNeg, if_true, if_false, reduceIte, reduceCtorEq, few_ok, Nat.reduceLeDiff, Nat.zero_le, wipeF, k1]
        exact word_ok ns (by omega) (by omega) hn
    · obtain ⟨ys, rfl, hy, hl⟩ := hd
      obtain ⟨ws, rfl, hw⟩ := ex_map (en := tupI) (P := WOk p.lt n) (fun y h => h) ys hy
      exact ⟨ws, rfl, by rw [upto_len] at hl; simpa using hl, hw⟩
  unfold dTup
  refine Y.bind (φ := fun xs => ∃ ws, xs = [tupI is, eWs ws] ∧ ws.length = p.ln.toNat ∧ ∀ w ∈ ws, WOk p.lt n w) ?_ fun xs hx => ?_
  · refine Y.bind (φ := (· = tupI is)) (.eq (x := tupI is) rfl rfl) fun x e => ?_
    subst e
    refine Y.bind (Y.cons1 wd) fun xs hx => ?_
    obtain ⟨_, rfl, ws, rfl, h⟩ := hx
    exact .pure ⟨ws, rfl, h⟩
  · obtain ⟨ws, rfl, h1, h2⟩ := hx
    exact .of (x := eL ⟨is, ws⟩) few_two ⟨_, rfl, hi, h1, h2⟩
end Rf

set_option maxRecDepth 100000
set_option maxHeartbeats 4000000
namespace Rf
open PySem PySem.Spec PyProof.Rows L2 Gd Dt Dl Ee Sd
/-! ### drawn programs, with types -/
theorem gTxt (x z : Str) : gEq (.str x) (.str z) = some (.bool (isTxt z (.str x))) := gEq_str rfl
theorem tdstep_ok (ns : List Int) {la le pl : Int} (h1 : 0 < la) (h2 : la ≤ 5) (h3 : 0 < le) (h4 : le ≤ 5) (h5 : 0 < pl) (h6 : pl ≤ 5) : Y (f_law_drawn_step [.pen ns, .d (.int la), .d (.int le), .d (.int pl)]) fun d => ∃ s, d = eS s ∧ SOk la le pl s := by
  refine Y.fn ?_
  unfold b_law_drawn_step
  refine Y.then (φ := fun f => ∃ w : Str, (w = "send" ∨ w = "take" ∨ w = "rest" ∨ w = "test") ∧ f = [.pen ns, .d (.int la), .d (.int le), .d (.int pl), .d (.str w), .no]) ?_ fun f hf => ?_
  · simp only [Mo.bind_assoc, Mo.pure_bind, Mo.of_some, Mo.bad_bind, Mo.raise_bind, Mo.nox_pure, Mo.nox_bind, Mo.nox_nox, Mo.nox_bad, initF, argSl, List.map_cons, List.map_nil, List.length_cons, List.length_nil, Nat.reduceSub, Nat.reduceAdd, List.replicate_succ, List.replicate_zero, List.cons_append, List.nil_append, List.append_nil, List.getElem?_cons_zero, List.getElem?_cons_succ, List.set_cons_zero, List.set_cons_succ, slD, slP, slO, dThen, dSkip, dSet, dPar, dRet, dIfS, dV, dC, dNil, dCons, dTup, dLst, dAnd, dOr, dNot, dIf, dAndT, dOrT, dNotT, dB, asB, dOp, dCb, dIsi, dCall, dACons, dANil, dAPen, dSl, dP, dNoP, asI, dAsg, gtN, gtT, gtNs, dSeq, asSeq, dIt, dYes, dRev, dNeg, gNeg, if_true, if_false, reduceIte, reduceCtorEq, few_ok, Nat.reduceLeDiff, Nat.zero_le]
    refine Y.bind (one_ok ns (by decide) (by decide)) fun x hx => ?_
    have : ∃ w : Str, x = .str w ∧ (w = "send" ∨ w = "take" ∨ w = "rest" ∨ w = "test") := by
      simp only [List.mem_cons, List.not_mem_nil, or_false] at hx
      rcases hx with rfl | rfl | rfl | rfl | rfl | rfl | rfl <;> exact ⟨_, rfl, by simp⟩
    obtain ⟨w, rfl, hw⟩ := this
    exact .pure ⟨_, rfl, w, hw, rfl⟩
  obtain ⟨w, hw, rfl⟩ := hf
  refine Y.then (φ := fun f => ∃ a b : Int, In la a ∧ In le b ∧ f = [.pen ns, .d (.int la), .d (.int le), .d (.int pl), .d (.str w), .d (.tuple [.str w, .int a, .int b])]) ?_ fun f hf => ?_
  · simp only [Mo.bind_assoc, Mo.pure_bind, Mo.of_some, Mo.bad_bind, Mo.raise_bind, Mo.nox_pure, Mo.nox_bind, Mo.nox_nox, Mo.nox_bad, initF, argSl, List.map_cons, List.map_nil, List.length_cons, List.length_nil, Nat.reduceSub, Nat.reduceAdd, List.replicate_succ, List.replicate_zero, List.cons_append, List.nil_append, List.append_nil, List.getElem?_cons_zero, List.getElem?_cons_succ, List.set_cons_zero, List.set_cons_succ, slD, slP, slO, dThen, dSkip, dSet, dPar, dRet, dIfS, dV, dC, dNil, dCons, dTup, dLst, dAnd, dOr, dNot, dIf, dAndT, dOrT, dNotT, dB, asB, dOp, dCb, dIsi, dCall, dACons, dANil, dAPen, dSl, dP, dNoP, asI, dAsg, gtN, gtT, gtNs, dSeq, asSeq, dIt, dYes, dRev, dNeg, gNeg, if_true, if_false, reduceIte, reduceCtorEq, few_ok, Nat.reduceLeDiff, Nat.zero_le]
    refine Y.bind (draw_in ns h1 (by omega)) fun x hx => ?_
    obtain ⟨a, rfl, ha⟩ := hx
    try simp only [Mo.bind_assoc, Mo.pure_bind, Mo.of_some, Mo.bad_bind, Mo.raise_bind, Mo.nox_pure, Mo.nox_bind, Mo.nox_nox, Mo.nox_bad, initF, argSl, List.map_cons, List.map_nil, List.length_cons, List.length_nil, Nat.reduceSub, Nat.reduceAdd, List.replicate_succ, List.replicate_zero, List.cons_append, List.nil_append, List.append_nil, List.getElem?_cons_zero, List.getElem?_cons_succ, List.set_cons_zero, List.set_cons_succ, slD, slP, slO, dThen, dSkip, dSet, dPar, dRet, dIfS, dV, dC, dNil, dCons, dTup, dLst, dAnd, dOr, dNot, dIf, dAndT, dOrT, dNotT, dB, asB, dOp, dCb, dIsi, dCall, dACons, dANil, dAPen, dSl, dP, dNoP, asI, dAsg, gtN, gtT, gtNs, dSeq, asSeq, dIt, dYes, dRev, dNeg, gNeg, if_true, if_false, reduceIte, reduceCtorEq, few_ok, Nat.reduceLeDiff, Nat.zero_le]
    refine Y.bind (draw_in ns h3 (by omega)) fun x hx => ?_
    obtain ⟨b, rfl, hb⟩ := hx
    try simp only [Mo.bind_assoc, Mo.pure_bind, Mo.of_some, Mo.bad_bind, Mo.raise_bind, Mo.nox_pure, Mo.nox_bind, Mo.nox_nox, Mo.nox_bad, initF, argSl, List.map_cons, List.map_nil, List.length_cons, List.length_nil, Nat.reduceSub, Nat.reduceAdd, List.replicate_succ, List.replicate_zero, List.cons_append, List.nil_append, List.append_nil, List.getElem?_cons_zero, List.getElem?_cons_succ, List.set_cons_zero, List.set_cons_succ, slD, slP, slO, dThen, dSkip, dSet, dPar, dRet, dIfS, dV, dC, dNil, dCons, dTup, dLst, dAnd, dOr, dNot, dIf, dAndT, dOrT, dNotT, dB, asB, dOp, dCb, dIsi, dCall, dACons, dANil, dAPen, dSl, dP, dNoP, asI, dAsg, gtN, gtT, gtNs, dSeq, asSeq, dIt, dYes, dRev, dNeg, gNeg, if_true, if_false, reduceIte, reduceCtorEq, few_ok, Nat.reduceLeDiff, Nat.zero_le]
    exact .pure ⟨_, rfl, a, b, ha, hb, rfl⟩
  obtain ⟨a, b, ha, hb, rfl⟩ := hf
  refine Y.then (φ := fun f => f = [.pen ns, .d (.int la), .d (.int le), .d (.int pl), .d (.str w), .d (if w = "test" then .tuple [.str w, .int a] else .tuple [.str w, .int a, .int b])]) ?_ fun f hf => ?_
  · rcases hw with rfl | rfl | rfl | rfl
    · refine .eq (x := .nx _) ?_ ⟨_, rfl, rfl⟩
      simp only [Mo.bind_assoc, Mo.pure_bind, Mo.of_some, Mo.bad_bind, Mo.raise_bind, Mo.nox_pure, Mo.nox_bind, Mo.nox_nox, Mo.nox_bad, initF, argSl, List.map_cons, List.map_nil, List.length_cons, List.length_nil, Nat.reduceSub, Nat.reduceAdd, List.replicate_succ, List.replicate_zero, List.cons_append, List.nil_append, List.append_nil, List.getElem?_cons_zero, List.getElem?_cons_succ, List.set_cons_zero, List.set_cons_succ, slD, slP, slO, dThen, dSkip, dSet, dPar, dRet, dIfS, dV, dC, dNil, dCons, dTup, dLst, dAnd, dOr, dNot, dIf, dAndT, dOrT, dNotT, dB, asB, dOp, dCb, dIsi, dCall, dACons, dANil, dAPen, dSl, dP, dNoP, asI, dAsg, gtN, gtT, gtNs, dSeq, asSeq, dIt, dYes, dRev, dNeg, gNeg, if_true, if_false, reduceIte, reduceCtorEq, few_ok, Nat.reduceLeDiff, Nat.zero_le, gTxt, show isTxt "test" (.str "send") = false from by decide +kernel, if_neg (show ¬ (("send" : Str) = "test") from by decide +kernel)]
    · refine .eq (x := .nx _) ?_ ⟨_, rfl, rfl⟩
      simp only [Mo.bind_assoc, Mo.pure_bind, Mo.of_some, Mo.bad_bind, Mo.raise_bind, Mo.nox_pure, Mo.nox_bind, Mo.nox_nox, Mo.nox_bad, initF, argSl, List.map_cons, List.map_nil, List.length_cons, List.length_nil, Nat.reduceSub, Nat.reduceAdd, List.replicate_succ, List.replicate_zero, List.cons_append, List.nil_append, List.append_nil, List.getElem?_cons_zero, List.getElem?_cons_succ, List.set_cons_zero, List.set_cons_succ, slD, slP, slO, dThen, dSkip, dSet, dPar, dRet, dIfS, dV, dC, dNil, dCons, dTup, dLst, dAnd, dOr, dNot, dIf, dAndT, dOrT, dNotT, dB, asB, dOp, dCb, dIsi, dCall, dACons, dANil, dAPen, dSl, dP, dNoP, asI, dAsg, gtN, gtT, gtNs, dSeq, asSeq, dIt, dYes, dRev, dNeg, gNeg, if_true, if_false, reduceIte, reduceCtorEq, few_ok, Nat.reduceLeDiff, Nat.zero_le, gTxt, show isTxt "test" (.str "take") = false from by decide +kernel, if_neg (show ¬ (("take" : Str) = "test") from by decide +kernel)]
    · refine .eq (x := .nx _) ?_ ⟨_, rfl, rfl⟩
      simp only [Mo.bind_assoc, Mo.pure_bind, Mo.of_some, Mo.bad_bind, Mo.raise_bind, Mo.nox_pure, Mo.nox_bind, Mo.nox_nox, Mo.nox_bad, initF, argSl, List.map_cons, List.map_nil, List.length_cons, List.length_nil, Nat.reduceSub, Nat.reduceAdd, List.replicate_succ, List.replicate_zero, List.cons_append, List.nil_append, List.append_nil, List.getElem?_cons_zero, List.getElem?_cons_succ, List.set_cons_zero, List.set_cons_succ, slD, slP, slO, dThen, dSkip, dSet, dPar, dRet, dIfS, dV, dC, dNil, dCons, dTup, dLst, dAnd, dOr, dNot, dIf, dAndT, dOrT, dNotT, dB, asB, dOp, dCb, dIsi, dCall, dACons, dANil, dAPen, dSl, dP, dNoP, asI, dAsg, gtN, gtT, gtNs, dSeq, asSeq, dIt, dYes, dRev, dNeg, gNeg, if_true, if_false, reduceIte, reduceCtorEq, few_ok, Nat.reduceLeDiff, Nat.zero_le, gTxt, show isTxt "test" (.str "rest") = false from by decide +kernel, if_neg (show ¬ (("rest" : Str) = "test") from by decide +kernel)]
    · refine .eq (x := .nx _) ?_ ⟨_, rfl, rfl⟩
      simp only [Mo.bind_assoc, Mo.pure_bind, Mo.of_some, Mo.bad_bind, Mo.raise_bind, Mo.nox_pure, Mo.nox_bind, Mo.nox_nox, Mo.nox_bad, initF, argSl, List.map_cons, List.map_nil, List.length_cons, List.length_nil, Nat.reduceSub, Nat.reduceAdd, List.replicate_succ, List.replicate_zero, List.cons_append, List.nil_append, List.append_nil, List.getElem?_cons_zero, List.getElem?_cons_succ, List.set_cons_zero, List.set_cons_succ, slD, slP, slO, dThen, dSkip, dSet, dPar, dRet, dIfS, dV, dC, dNil, dCons, dTup, dLst, dAnd, dOr, dNot, dIf, dAndT, dOrT, dNotT, dB, asB, dOp, dCb, dIsi, dCall, dACons, dANil, dAPen, dSl, dP, dNoP, asI, dAsg, gtN, gtT, gtNs, dSeq, asSeq, dIt, dYes, dRev, dNeg, gNeg, if_true, if_false, reduceIte, reduceCtorEq, few_ok, Nat.reduceLeDiff, Nat.zero_le, gTxt, show isTxt "test" (.str "test") = true from by decide +kernel, gSl, show Dl.cutD [PyData.str "test", .int a, .int b] none (some 2) = [PyData.str "test", .int a] from cut_take _ 2]
  subst hf
  try simp only [Mo.bind_assoc, Mo.pure_bind, Mo.of_some, Mo.bad_bind, Mo.raise_bind, Mo.nox_pure, Mo.nox_bind, Mo.nox_nox, Mo.nox_bad, initF, argSl, List.map_cons, List.map_nil, List.length_cons, List.length_nil, Nat.reduceSub, Nat.reduceAdd, List.replicate_succ, List.replicate_zero, List.cons_append, List.nil_append, List.append_nil, List.getElem?_cons_zero, List.getElem?_cons_succ, List.set_cons_zero, List.set_cons_succ, slD, slP, slO, dThen, dSkip, dSet, dPar, dRet, dIfS, dV, dC, dNil, dCons, dTup, dLst, dAnd, dOr, dNot, dIf, dAndT, dOrT, dNotT, dB, asB, dOp, dCb, dIsi, dCall, dACons, dANil, dAPen, dSl, dP, dNoP, asI, dAsg, gtN, gtT, gtNs, dSeq, asSeq, dIt, dYes, dRev, dNeg, gNeg, if_true, if_false, reduceIte, reduceCtorEq, few_ok, Nat.reduceLeDiff, Nat.zero_le]
  refine Y.bind (draw_in ns h5 (by omega)) fun x hx => ?_
  obtain ⟨p, rfl, hp⟩ := hx
  try simp only [Mo.bind_assoc, Mo.pure_bind, Mo.of_some, Mo.bad_bind, Mo.raise_bind, Mo.nox_pure, Mo.nox_bind, Mo.nox_nox, Mo.nox_bad, initF, argSl, List.map_cons, List.map_nil, List.length_cons, List.length_nil, Nat.reduceSub, Nat.reduceAdd, List.replicate_succ, List.replicate_zero, List.cons_append, List.nil_append, List.append_nil, List.getElem?_cons_zero, List.getElem?_cons_succ, List.set_cons_zero, List.set_cons_succ, slD, slP, slO, dThen, dSkip, dSet, dPar, dRet, dIfS, dV, dC, dNil, dCons, dTup, dLst, dAnd, dOr, dNot, dIf, dAndT, dOrT, dNotT, dB, asB, dOp, dCb, dIsi, dCall, dACons, dANil, dAPen, dSl, dP, dNoP, asI, dAsg, gtN, gtT, gtNs, dSeq, asSeq, dIt, dYes, dRev, dNeg, gNeg, if_true, if_false, reduceIte, reduceCtorEq, few_ok, Nat.reduceLeDiff, Nat.zero_le]
  have fin : ∀ (ac : Ac), AOk la le ac → Y ((f_law_draw [.pen ns, .d (.int pl)]).bind fun x => Mo.pure (Out.rt (.tuple [.int p, eA ac, x]))) fun o => ∃ d, o = .rt d ∧ ∃ s, d = eS s ∧ SOk la le pl s := fun ac ok => by
    refine Y.bind (draw_in ns h5 (by omega)) fun x hx => ?_
    obtain ⟨q, rfl, hq⟩ := hx
    exact .pure ⟨_, rfl, ⟨p, ac, q⟩, rfl, hp, ok, hq⟩
  rcases hw with rfl | rfl | rfl | rfl
  · have e := gNe_s (x := "send") (y := "rest") (q := false) (by decide +kernel)
    simp only [Mo.bind_assoc, Mo.pure_bind, Mo.of_some, Mo.bad_bind, Mo.raise_bind, Mo.nox_pure, Mo.nox_bind, Mo.nox_nox, Mo.nox_bad, initF, argSl, List.map_cons, List.map_nil, List.length_cons, List.length_nil, Nat.reduceSub, Nat.reduceAdd, List.replicate_succ, List.replicate_zero, List.cons_append, List.nil_append, List.append_nil, List.getElem?_cons_zero, List.getElem?_cons_succ, List.set_cons_zero, List.set_cons_succ, slD, slP, slO, dThen, dSkip, dSet, dPar, dRet, dIfS, dV, dC, dNil, dCons, dTup, dLst, dAnd, dOr, dNot, dIf, dAndT, dOrT, dNotT, dB, asB, dOp, dCb, dIsi, dCall, dACons, dANil, dAPen, dSl, dP, dNoP, asI, dAsg, gtN, gtT, gtNs, dSeq, asSeq, dIt, dYes, dRev, dNeg, gNeg, if_true, if_false, reduceIte, reduceCtorEq, few_ok, Nat.reduceLeDiff, Nat.zero_le, e, Bool.not_false, if_neg (show ¬ (("send" : Str) = "test") from by decide +kernel)]
    exact fin (.send a b) ⟨ha, hb⟩
  · have e := gNe_s (x := "take") (y := "rest") (q := false) (by decide +kernel)
    simp only [Mo.bind_assoc, Mo.pure_bind, Mo.of_some, Mo.bad_bind, Mo.raise_bind, Mo.nox_pure, Mo.nox_bind, Mo.nox_nox, Mo.nox_bad, initF, argSl, List.map_cons, List.map_nil, List.length_cons, List.length_nil, Nat.reduceSub, Nat.reduceAdd, List.replicate_succ, List.replicate_zero, List.cons_append, List.nil_append, List.append_nil, List.getElem?_cons_zero, List.getElem?_cons_succ, List.set_cons_zero, List.set_cons_succ, slD, slP, slO, dThen, dSkip, dSet, dPar, dRet, dIfS, dV, dC, dNil, dCons, dTup, dLst, dAnd, dOr, dNot, dIf, dAndT, dOrT, dNotT, dB, asB, dOp, dCb, dIsi, dCall, dACons, dANil, dAPen, dSl, dP, dNoP, asI, dAsg, gtN, gtT, gtNs, dSeq, asSeq, dIt, dYes, dRev, dNeg, gNeg, if_true, if_false, reduceIte, reduceCtorEq, few_ok, Nat.reduceLeDiff, Nat.zero_le, e, Bool.not_false, if_neg (show ¬ (("take" : Str) = "test") from by decide +kernel)]
    exact fin (.take a b) ⟨ha, hb⟩
  · have e := gNe_s (x := "rest") (y := "rest") (q := true) (by decide +kernel)
    simp only [Mo.bind_assoc, Mo.pure_bind, Mo.of_some, Mo.bad_bind, Mo.raise_bind, Mo.nox_pure, Mo.nox_bind, Mo.nox_nox, Mo.nox_bad, initF, argSl, List.map_cons, List.map_nil, List.length_cons, List.length_nil, Nat.reduceSub, Nat.reduceAdd, List.replicate_succ, List.replicate_zero, List.cons_append, List.nil_append, List.append_nil, List.getElem?_cons_zero, List.getElem?_cons_succ, List.set_cons_zero, List.set_cons_succ, slD, slP, slO, dThen, dSkip, dSet, dPar, dRet, dIfS, dV, dC, dNil, dCons, dTup, dLst, dAnd, dOr, dNot, dIf, dAndT, dOrT, dNotT, dB, asB, dOp, dCb, dIsi, dCall, dACons, dANil, dAPen, dSl, dP, dNoP, asI, dAsg, gtN, gtT, gtNs, dSeq, asSeq, dIt, dYes, dRev, dNeg, gNeg, if_true, if_false, reduceIte, reduceCtorEq, few_ok, Nat.reduceLeDiff, Nat.zero_le, e, Bool.not_true]
    exact fin .rest trivial
  · have e := gNe_s (x := "test") (y := "rest") (q := false) (by decide +kernel)
    simp only [Mo.bind_assoc, Mo.pure_bind, Mo.of_some, Mo.bad_bind, Mo.raise_bind, Mo.nox_pure, Mo.nox_bind, Mo.nox_nox, Mo.nox_bad, initF, argSl, List.map_cons, List.map_nil, List.length_cons, List.length_nil, Nat.reduceSub, Nat.reduceAdd, List.replicate_succ, List.replicate_zero, List.cons_append, List.nil_append, List.append_nil, List.getElem?_cons_zero, List.getElem?_cons_succ, List.set_cons_zero, List.set_cons_succ, slD, slP, slO, dThen, dSkip, dSet, dPar, dRet, dIfS, dV, dC, dNil, dCons, dTup, dLst, dAnd, dOr, dNot, dIf, dAndT, dOrT, dNotT, dB, asB, dOp, dCb, dIsi, dCall, dACons, dANil, dAPen, dSl, dP, dNoP, asI, dAsg, gtN, gtT, gtNs, dSeq, asSeq, dIt, dYes, dRev, dNeg, gNeg, if_true, if_false, reduceIte, reduceCtorEq, few_ok, Nat.reduceLeDiff, Nat.zero_le, e, Bool.not_false]
    exact fin (.test a) ha
theorem ins_sub {d : PyData} : ∀ es : List PyData, (∀ x ∈ insU d es, x = d ∨ x ∈ es) ∧ (insU d es).length ≤ es.length + 1
  | [] => ⟨fun x hx => .inl (List.mem_singleton.mp hx), Nat.le_refl _⟩
  | e :: es => by
    have r := ins_sub (d := d) es
    unfold insU
    split
    · exact ⟨fun x hx => .inr hx, Nat.le_succ _⟩
    · split
      · exact ⟨fun x hx => (List.mem_cons.mp hx), Nat.le_refl _⟩
      · refine ⟨fun x hx => ?_, by simpa using r.2⟩
        rcases List.mem_cons.mp hx with rfl | hx
        · exact .inr List.mem_cons_self
        · rcases r.1 x hx with h | h
          · exact .inl h
          · exact .inr (List.mem_cons_of_mem _ h)
theorem sort_sub : ∀ es : List PyData, (∀ x ∈ sortU es, x ∈ es) ∧ (sortU es).length ≤ es.length
  | [] => ⟨fun _ h => h, Nat.le_refl _⟩
  | d :: es => by
    have r := sort_sub es
    have q := ins_sub (d := d) (sortU es)
    refine ⟨fun x hx => ?_, ?_⟩
    · rcases q.1 x hx with rfl | h
      · exact List.mem_cons_self
      · exact List.mem_cons_of_mem _ (r.1 x h)
    · show (insU d (sortU es)).length ≤ _
      have := r.2
      have := q.2
      simp only [List.length_cons]
      omega
theorem ok_txt {w : Str} (h : PyData.strOk w = true) : keyD (.str w) = true := by simpa only [keyD] using h
theorem key_eA (a : Ac) : keyD (eA a) = true := by
  cases a <;> simp only [eA, keyD, keyDs, Bool.and_true, Bool.true_and] <;> decide +kernel
theorem dep_eA (a : Ac) : (eA a).depth ≤ 1 := by
  cases a <;> simp [eA, PyData.depth, PyData.depthAll]
theorem key_eS (s : St) : keyD (eS s) = true := by
  simp only [eS, keyD, keyDs, key_eA, Bool.and_self]
theorem dep_eS (s : St) : (eS s).depth ≤ 2 := by
  have := dep_eA s.ac
  simp only [eS, PyData.depth, PyData.depthAll]
  omega
theorem like_eA (a b : Ac) : like (eA a) (eA b) = true := by
  cases a <;> cases b <;> simp [eA, like, likes]
theorem like_eS (s t : St) : like (eS s) (eS t) = true := by
  simp [eS, like, likes, like_eA]
theorem like_ints : ∀ a b : List Int, likes (a.map .int) (b.map .int) = true
  | [], [] => rfl
  | [], _ :: _ => rfl
  | _ :: _, [] => rfl
  | x :: a, y :: b => by simp [likes, like, like_ints a b]
theorem like_tupI (a b : List Int) : like (tupI a) (tupI b) = true := by
  simp [tupI, like, like_ints]
theorem like_wds : ∀ a b : List (List Int), likes (a.map tupI) (b.map tupI) = true
  | [], [] => rfl
  | [], _ :: _ => rfl
  | _ :: _, [] => rfl
  | x :: a, y :: b => by simp [likes, like_tupI, like_wds a b]
theorem like_eWs (a b : List (List Int)) : like (eWs a) (eWs b) = true := by
  simp [eWs, like, like_wds]
theorem like_eL (a b : Lt) : like (eL a) (eL b) = true := by
  simp [eL, like, likes, like_tupI, like_eWs]
theorem fit_all {ds : List PyData} (h1 : ∀ d ∈ ds, keyD d = true) (h2 : ∀ d ∈ ds, d.depth ≤ 8) (h3 : (∀ d ∈ ds, hdI d = true) ∨ ∀ d ∈ ds, hdT d = true) (h4 : ∀ d ∈ ds, ∀ e ∈ ds, like d e = true) (h5 : ds.length < 64) : fitB ds = true := by
  unfold fitB
  simp only [Bool.and_eq_true, List.all_eq_true, decide_eq_true_eq, Bool.or_eq_true]
  exact ⟨⟨⟨⟨h1, h2⟩, h3⟩, h4⟩, h5⟩
theorem fit_S {ss : List St} (h : ss.length < 64) : fitB (ss.map eS) = true := by
  have k : ∀ d ∈ ss.map eS, ∃ s, d = eS s := fun d hd => by
    obtain ⟨s, _, rfl⟩ := List.mem_map.mp hd
    exact ⟨s, rfl⟩
  refine fit_all (fun d hd => ?_) (fun d hd => ?_) (.inl fun d hd => ?_) (fun d hd e he => ?_) (by rw [List.length_map]; exact h)
  · obtain ⟨s, rfl⟩ := k d hd
    exact key_eS s
  · obtain ⟨s, rfl⟩ := k d hd
    exact Nat.le_trans (dep_eS s) (by decide)
  · obtain ⟨s, rfl⟩ := k d hd
    rfl
  · obtain ⟨s, rfl⟩ := k d hd
    obtain ⟨t, rfl⟩ := k e he
    exact like_eS s t
theorem fit_L {ls : List Lt} (h : ls.length < 64) : fitB (ls.map eL) = true := by
  have k : ∀ d ∈ ls.map eL, ∃ s, d = eL s := fun d hd => by
    obtain ⟨s, _, rfl⟩ := List.mem_map.mp hd
    exact ⟨s, rfl⟩
  refine fit_all (fun d hd => ?_) (fun d hd => ?_) (.inr fun d hd => ?_) (fun d hd e he => ?_) (by rw [List.length_map]; exact h)
  · obtain ⟨s, rfl⟩ := k d hd
    exact key_eL s
  · obtain ⟨s, rfl⟩ := k d hd
    exact Nat.le_trans (dep_eL s) (by decide)
  · obtain ⟨s, rfl⟩ := k d hd
    rfl
  · obtain ⟨s, rfl⟩ := k d hd
    obtain ⟨t, rfl⟩ := k e he
    exact like_eL s t
theorem sub_map {α : Type} {en : α → PyData} {xs : List α} {ys : List PyData} (h : ∀ y ∈ ys, y ∈ xs.map en) : ∃ zs : List α, ys = zs.map en ∧ ∀ z ∈ zs, z ∈ xs := ex_map (φ := fun y => y ∈ xs.map en) (fun y hy => by
  obtain ⟨a, ha, rfl⟩ := List.mem_map.mp hy
  exact ⟨a, rfl, ha⟩) ys h
theorem machine_ok (ns : List Int) {la le pl : Int} {mo : Nat} (h1 : 0 < la) (h2 : la ≤ 5) (h3 : 0 < le) (h4 : le ≤ 5) (h5 : 1 ≤ pl) (h6 : pl ≤ 5) (h8 : mo ≤ 24) : Y (f_law_drawn_machine [.pen ns, .d (.int la), .d (.int le), .d (.int pl), .d (.int (mo : Nat))]) fun d => ∃ m, d = eM m ∧ MOk la le mo m := by
  refine Y.fn ?_
  unfold b_law_drawn_machine
  refine Y.then (φ := fun f => ∃ ss : List St, (∀ s ∈ ss, SOk la le pl s) ∧ ss.length ≤ mo ∧ f = [.pen ns, .d (.int la), .d (.int le), .d (.int pl), .d (.int (mo : Nat)), .d (.list (ss.map eS)), .no]) ?_ fun f hf => ?_
  · refine Y.bind (Y.lcm (M := mo) (P := fun _ => True) (φ := fun d => ∃ s, d = eS s ∧ SOk la le pl s) ?_ (by omega) fun x _ => ⟨_, rfl, ?_⟩) fun d hd => ?_
    · refine Y.ran (b := (mo : Int) + 1) ?_ (by omega) (by omega)
      refine (Y.cons1 (φ := IntIn ((mo : Int) + 1)) ?_).imp fun xs hx => ?_
      · simp only [Mo.bind_assoc, Mo.pure_bind, Mo.of_some, Mo.bad_bind, Mo.raise_bind, Mo.nox_pure, Mo.nox_bind, Mo.nox_nox, Mo.nox_bad, initF, argSl, List.map_cons, List.map_nil, List.length_cons, List.length_nil, Nat.reduceSub, Nat.reduceAdd, List.replicate_succ, List.replicate_zero, List.cons_append, List.nil_append, List.append_nil, List.getElem?_cons_zero, List.getElem?_cons_succ, List.set_cons_zero, List.set_cons_succ, slD, slP, slO, dThen, dSkip, dSet, dPar, dRet, dIfS, dV, dC, dNil, dCons, dTup, dLst, dAnd, dOr, dNot, dIf, dAndT, dOrT, dNotT, dB, asB, dOp, dCb, dIsi, dCall, dACons, dANil, dAPen, dSl, dP, dNoP, asI, dAsg, gtN, gtT, gtNs, dSeq, asSeq, dIt, dYes, dRev, dNeg, gNeg, if_true, if_false, reduceIte, reduceCtorEq, few_ok, Nat.reduceLeDiff, Nat.zero_le, gAdd]
        exact draw_in ns (b := (mo : Int) + 1) (by omega) (by omega)
      · obtain ⟨x, rfl, z, rfl, hz⟩ := hx
        exact ⟨z, rfl, hz⟩
    · simp only [Mo.bind_assoc, Mo.pure_bind, Mo.of_some, Mo.bad_bind, Mo.raise_bind, Mo.nox_pure, Mo.nox_bind, Mo.nox_nox, Mo.nox_bad, initF, argSl, List.map_cons, List.map_nil, List.length_cons, List.length_nil, Nat.reduceSub, Nat.reduceAdd, List.replicate_succ, List.replicate_zero, List.cons_append, List.nil_append, List.append_nil, List.getElem?_cons_zero, List.getElem?_cons_succ, List.set_cons_zero, List.set_cons_succ, slD, slP, slO, dThen, dSkip, dSet, dPar, dRet, dIfS, dV, dC, dNil, dCons, dTup, dLst, dAnd, dOr, dNot, dIf, dAndT, dOrT, dNotT, dB, asB, dOp, dCb, dIsi, dCall, dACons, dANil, dAPen, dSl, dP, dNoP, asI, dAsg, gtN, gtT, gtNs, dSeq, asSeq, dIt, dYes, dRev, dNeg, gNeg, if_true, if_false, reduceIte, reduceCtorEq, few_ok, Nat.reduceLeDiff, Nat.zero_le, wipeF]
      exact tdstep_ok ns h1 h2 h3 h4 (by omega) h6
    · obtain ⟨ys, rfl, hy, hl⟩ := hd
      obtain ⟨ss, rfl, hs⟩ := ex_map (fun y h => h) ys hy
      exact .pure ⟨_, rfl, ss, hs, by simpa using hl, rfl⟩
  obtain ⟨ss, hs, hl, rfl⟩ := hf
  have f := fit_S (ss := ss) (by omega)
  have sb := sort_sub (ss.map eS)
  obtain ⟨st, e, hst⟩ := sub_map sb.1
  have lk : ∀ d ∈ ss.map eS, ∀ e ∈ ss.map eS, like d e = true := fun d hd e he => by
    obtain ⟨s, _, rfl⟩ := List.mem_map.mp hd
    obtain ⟨t, _, rfl⟩ := List.mem_map.mp he
    exact like_eS s t
  have as := asc_sortU lk
  rw [e] at as
  have ln := sb.2
  rw [e, List.length_map, List.length_map] at ln
  refine .eq (x := .rt (eM ⟨pl, st⟩)) ?_ ⟨_, rfl, _, rfl, ⟨h5, h6⟩, fun s h => hs s (hst s h), Nat.le_trans ln hl, as⟩
  simp only [Mo.bind_assoc, Mo.pure_bind, Mo.of_some, Mo.bad_bind, Mo.raise_bind, Mo.nox_pure, Mo.nox_bind, Mo.nox_nox, Mo.nox_bad, initF, argSl, List.map_cons, List.map_nil, List.length_cons, List.length_nil, Nat.reduceSub, Nat.reduceAdd, List.replicate_succ, List.replicate_zero, List.cons_append, List.nil_append, List.append_nil, List.getElem?_cons_zero, List.getElem?_cons_succ, List.set_cons_zero, List.set_cons_succ, slD, slP, slO, dThen, dSkip, dSet, dPar, dRet, dIfS, dV, dC, dNil, dCons, dTup, dLst, dAnd, dOr, dNot, dIf, dAndT, dOrT, dNotT, dB, asB, dOp, dCb, dIsi, dCall, dACons, dANil, dAPen, dSl, dP, dNoP, asI, dAsg, gtN, gtT, gtNs, dSeq, asSeq, dIt, dYes, dRev, dNeg, gNeg, if_true, if_false, reduceIte, reduceCtorEq, few_ok, Nat.reduceLeDiff, Nat.zero_le, dSortSet, gSortSet, f, gTupOf, e]
  rfl
theorem small_ok (ns : List Int) {xs : List PyData} {lo hi : Int} (h0 : xs ≠ []) (h1 : xs.length < 100) (h : ∀ x ∈ xs, ∃ i, x = .int i ∧ lo ≤ i ∧ i ≤ hi) : Y (f_law_one_of [.pen ns, .d (.list xs)]) fun x => ∃ i, x = .int i ∧ lo ≤ i ∧ i ≤ hi := (one_ok ns h0 (by omega)).imp fun x hx => h x hx
theorem program_ok (ns : List Int) {mo : Nat} (hmo : mo ≤ 24) : Y (f_law_drawn_program [.pen ns, .d (.int (mo : Nat))]) fun d => ∃ p, d = eP p ∧ POk mo p := by
  have c5 : ∀ x ∈ [PyData.int 1, .int 1, .int 2, .int 2, .int 3], ∃ i, x = .int i ∧ 1 ≤ i ∧ i ≤ 3 := fun x hx => by
    simp only [List.mem_cons, List.not_mem_nil, or_false] at hx
    rcases hx with rfl | rfl | rfl | rfl | rfl <;> exact ⟨_, rfl, by decide, by decide⟩
  have c4 : ∀ x ∈ [PyData.int 1, .int 2, .int 2, .int 3], ∃ i, x = .int i ∧ 1 ≤ i ∧ i ≤ 3 := fun x hx => by
    simp only [List.mem_cons, List.not_mem_nil, or_false] at hx
    rcases hx with rfl | rfl | rfl | rfl <;> exact ⟨_, rfl, by decide, by decide⟩
  have c3 : ∀ x ∈ [PyData.int 3, .int 3, .int 5], ∃ i, x = .int i ∧ 1 ≤ i ∧ i ≤ 5 := fun x hx => by
    simp only [List.mem_cons, List.not_mem_nil, or_false] at hx
    rcases hx with rfl | rfl | rfl <;> exact ⟨_, rfl, by decide, by decide⟩
  have c2 : ∀ x ∈ [PyData.int 2, .int 2, .int 2, .int 5], ∃ i, x = .int i ∧ 1 ≤ i ∧ i ≤ 5 := fun x hx => by
    simp only [List.mem_cons, List.not_mem_nil, or_false] at hx
    rcases hx with rfl | rfl | rfl | rfl <;> exact ⟨_, rfl, by decide, by decide⟩
  generalize hM : PyData.int (mo : Nat) = M0
  refine Y.fn ?_
  unfold b_law_drawn_program
  refine Y.then (φ := fun f => ∃ la le : Int, (1 ≤ la ∧ la ≤ 3) ∧ (1 ≤ le ∧ le ≤ 3) ∧ f = [.pen ns, .d M0, .d (.int la), .d (.int le), .no, .no, .no, .no]) ?_ fun f hf => ?_
  · simp only [Mo.bind_assoc, Mo.pure_bind, Mo.of_some, Mo.bad_bind, Mo.raise_bind, Mo.nox_pure, Mo.nox_bind, Mo.nox_nox, Mo.nox_bad, initF, argSl, List.map_cons, List.map_nil, List.length_cons, List.length_nil, Nat.reduceSub, Nat.reduceAdd, List.replicate_succ, List.replicate_zero, List.cons_append, List.nil_append, List.append_nil, List.getElem?_cons_zero, List.getElem?_cons_succ, List.set_cons_zero, List.set_cons_succ, slD, slP, slO, dThen, dSkip, dSet, dPar, dRet, dIfS, dV, dC, dNil, dCons, dTup, dLst, dAnd, dOr, dNot, dIf, dAndT, dOrT, dNotT, dB, asB, dOp, dCb, dIsi, dCall, dACons, dANil, dAPen, dSl, dP, dNoP, asI, dAsg, gtN, gtT, gtNs, dSeq, asSeq, dIt, dYes, dRev, dNeg, gNeg, if_true, if_false, reduceIte, reduceCtorEq, few_ok, Nat.reduceLeDiff, Nat.zero_le]
    refine Y.bind (small_ok ns (by decide) (by decide) c5) fun x hx => ?_
    obtain ⟨la, rfl, a0, a1⟩ := hx
    try simp only [Mo.bind_assoc, Mo.pure_bind, Mo.of_some, Mo.bad_bind, Mo.raise_bind, Mo.nox_pure, Mo.nox_bind, Mo.nox_nox, Mo.nox_bad, initF, argSl, List.map_cons, List.map_nil, List.length_cons, List.length_nil, Nat.reduceSub, Nat.reduceAdd, List.replicate_succ, List.replicate_zero, List.cons_append, List.nil_append, List.append_nil, List.getElem?_cons_zero, List.getElem?_cons_succ, List.set_cons_zero, List.set_cons_succ, slD, slP, slO, dThen, dSkip, dSet, dPar, dRet, dIfS, dV, dC, dNil, dCons, dTup, dLst, dAnd, dOr, dNot, dIf, dAndT, dOrT, dNotT, dB, asB, dOp, dCb, dIsi, dCall, dACons, dANil, dAPen, dSl, dP, dNoP, asI, dAsg, gtN, gtT, gtNs, dSeq, asSeq, dIt, dYes, dRev, dNeg, gNeg, if_true, if_false, reduceIte, reduceCtorEq, few_ok, Nat.reduceLeDiff, Nat.zero_le]
    refine Y.bind (small_ok ns (by decide) (by decide) c4) fun x hx => ?_
    obtain ⟨le, rfl, b0, b1⟩ := hx
    try simp only [Mo.bind_assoc, Mo.pure_bind, Mo.of_some, Mo.bad_bind, Mo.raise_bind, Mo.nox_pure, Mo.nox_bind, Mo.nox_nox, Mo.nox_bad, initF, argSl, List.map_cons, List.map_nil, List.length_cons, List.length_nil, Nat.reduceSub, Nat.reduceAdd, List.replicate_succ, List.replicate_zero, List.cons_append, List.nil_append, List.append_nil, List.getElem?_cons_zero, List.getElem?_cons_succ, List.set_cons_zero, List.set_cons_succ, slD, slP, slO, dThen, dSkip, dSet, dPar, dRet, dIfS, dV, dC, dNil, dCons, dTup, dLst, dAnd, dOr, dNot, dIf, dAndT, dOrT, dNotT, dB, asB, dOp, dCb, dIsi, dCall, dACons, dANil, dAPen, dSl, dP, dNoP, asI, dAsg, gtN, gtT, gtNs, dSeq, asSeq, dIt, dYes, dRev, dNeg, gNeg, if_true, if_false, reduceIte, reduceCtorEq, few_ok, Nat.reduceLeDiff, Nat.zero_le]
    exact .pure ⟨_, rfl, la, le, ⟨a0, a1⟩, ⟨b0, b1⟩, rfl⟩
  obtain ⟨la, le, ha, hb, rfl⟩ := hf
  refine Y.then (φ := fun f => ∃ mn : Int, (1 ≤ mn ∧ mn ≤ 3) ∧ f = [.pen ns, .d M0, .d (.int la), .d (.int le), .d (.int mn), .no, .no, .no]) ?_ fun f hf => ?_
  · simp only [Mo.bind_assoc, Mo.pure_bind, Mo.of_some, Mo.bad_bind, Mo.raise_bind, Mo.nox_pure, Mo.nox_bind, Mo.nox_nox, Mo.nox_bad, initF, argSl, List.map_cons, List.map_nil, List.length_cons, List.length_nil, Nat.reduceSub, Nat.reduceAdd, List.replicate_succ, List.replicate_zero, List.cons_append, List.nil_append, List.append_nil, List.getElem?_cons_zero, List.getElem?_cons_succ, List.set_cons_zero, List.set_cons_succ, slD, slP, slO, dThen, dSkip, dSet, dPar, dRet, dIfS, dV, dC, dNil, dCons, dTup, dLst, dAnd, dOr, dNot, dIf, dAndT, dOrT, dNotT, dB, asB, dOp, dCb, dIsi, dCall, dACons, dANil, dAPen, dSl, dP, dNoP, asI, dAsg, gtN, gtT, gtNs, dSeq, asSeq, dIt, dYes, dRev, dNeg, gNeg, if_true, if_false, reduceIte, reduceCtorEq, few_ok, Nat.reduceLeDiff, Nat.zero_le]
    refine Y.bind (small_ok ns (by decide) (by decide) c5) fun x hx => ?_
    obtain ⟨mn, rfl, a0, a1⟩ := hx
    exact .pure ⟨_, rfl, mn, ⟨a0, a1⟩, rfl⟩
  obtain ⟨mn, hm, rfl⟩ := hf
  refine Y.then (φ := fun f => f = [.pen ns, .d M0, .d (.int la), .d (.int le), .d (.int mn), .d (.tuple []), .no, .no]) (.pure ⟨_, rfl, rfl⟩) fun f hf => ?_
  subst hf
  refine Y.then (φ := fun f => ∃ (ms : List Mc) (x y : Sl), ms.length = mn.toNat ∧ (∀ m ∈ ms, MOk la le mo m) ∧ f = [.pen ns, .d M0, .d (.int la), .d (.int le), .d (.int mn), .d (.tuple (ms.map eM)), x, y]) ?_ fun f hf => ?_
  · refine Y.bind (φ := (· = upto 0 mn.toNat)) (.eq (x := upto 0 mn.toNat) (ran_go (z := mn) (M := 3) (by simp only [Mo.bind_assoc, Mo.pure_bind, Mo.of_some, Mo.bad_bind, Mo.raise_bind, Mo.nox_pure, Mo.nox_bind, Mo.nox_nox, Mo.nox_bad, initF, argSl, List.map_cons, List.map_nil, List.length_cons, List.length_nil, Nat.reduceSub, Nat.reduceAdd, List.replicate_succ, List.replicate_zero, List.cons_append, List.nil_append, List.append_nil, List.getElem?_cons_zero, List.getElem?_cons_succ, List.set_cons_zero, List.set_cons_succ, slD, slP, slO, dThen, dSkip, dSet, dPar, dRet, dIfS, dV, dC, dNil, dCons, dTup, dLst, dAnd, dOr, dNot, dIf, dAndT, dOrT, dNotT, dB, asB, dOp, dCb, dIsi, dCall, dACons, dANil, dAPen, dSl, dP, dNoP, asI, dAsg, gtN, gtT, gtNs, dSeq, asSeq, dIt, dYes, dRev, dNeg, gNeg, if_true, if_false, reduceIte, reduceCtorEq, few_ok, Nat.reduceLeDiff, Nat.zero_le]) (by omega) (by omega) (by decide)) rfl) fun xs e => ?_
    subst e
    refine Y.for (I := fun i f => ∃ (ms : List Mc) (x y : Sl), ms.length = i ∧ (∀ m ∈ ms, MOk la le mo m) ∧ f = [.pen ns, .d M0, .d (.int la), .d (.int le), .d (.int mn), .d (.tuple (ms.map eM)), x, y]) _ 0 _ ⟨[], _, _, rfl, fun _ h => absurd h List.not_mem_nil, rfl⟩ (fun i x f hx hf => ?_) fun f hf => ?_
    · obtain ⟨ms, s6, s7, el, hms, rfl⟩ := hf
      obtain ⟨hi, rfl⟩ := upto_get hx
      refine ⟨_, rfl, ?_⟩
      refine Y.then (φ := fun f => ∃ pl : Int, (1 ≤ pl ∧ pl ≤ 5) ∧ f = [.pen ns, .d M0, .d (.int la), .d (.int le), .d (.int mn), .d (.tuple (ms.map eM)), .d (.int (0 + (i : Nat))), .d (.int pl)]) ?_ fun f hf => ?_
      · cases t : decide (mn < 3) with
        | true =>
          simp only [Mo.bind_assoc, Mo.pure_bind, Mo.of_some, Mo.bad_bind, Mo.raise_bind, Mo.nox_pure, Mo.nox_bind, Mo.nox_nox, Mo.nox_bad, initF, argSl, List.map_cons, List.map_nil, List.length_cons, List.length_nil, Nat.reduceSub, Nat.reduceAdd, List.replicate_succ, List.replicate_zero, List.cons_append, List.nil_append, List.append_nil, List.getElem?_cons_zero, List.getElem?_cons_succ, List.set_cons_zero, List.set_cons_succ, slD, slP, slO, dThen, dSkip, dSet, dPar, dRet, dIfS, dV, dC, dNil, dCons, dTup, dLst, dAnd, dOr, dNot, dIf, dAndT, dOrT, dNotT, dB, asB, dOp, dCb, dIsi, dCall, dACons, dANil, dAPen, dSl, dP, dNoP, asI, dAsg, gtN, gtT, gtNs, dSeq, asSeq, dIt, dYes, dRev, dNeg, gNeg, if_true, if_false, reduceIte, reduceCtorEq, few_ok, Nat.reduceLeDiff, Nat.zero_le, gLt, t]
          refine Y.bind (small_ok ns (by decide) (by decide) c3) fun x hx => ?_
          obtain ⟨b, rfl, b0, b1⟩ := hx
          try simp only [Mo.bind_assoc, Mo.pure_bind, Mo.of_some, Mo.bad_bind, Mo.raise_bind, Mo.nox_pure, Mo.nox_bind, Mo.nox_nox, Mo.nox_bad, initF, argSl, List.map_cons, List.map_nil, List.length_cons, List.length_nil, Nat.reduceSub, Nat.reduceAdd, List.replicate_succ, List.replicate_zero, List.cons_append, List.nil_append, List.append_nil, List.getElem?_cons_zero, List.getElem?_cons_succ, List.set_cons_zero, List.set_cons_succ, slD, slP, slO, dThen, dSkip, dSet, dPar, dRet, dIfS, dV, dC, dNil, dCons, dTup, dLst, dAnd, dOr, dNot, dIf, dAndT, dOrT, dNotT, dB, asB, dOp, dCb, dIsi, dCall, dACons, dANil, dAPen, dSl, dP, dNoP, asI, dAsg, gtN, gtT, gtNs, dSeq, asSeq, dIt, dYes, dRev, dNeg, gNeg, if_true, if_false, reduceIte, reduceCtorEq, few_ok, Nat.reduceLeDiff, Nat.zero_le]
          refine Y.bind (draw_ok ns (b := b) (by omega) (by omega)) fun x hx => ?_
          obtain ⟨z, rfl, z0, z1⟩ := hx
          simp only [Mo.bind_assoc, Mo.pure_bind, Mo.of_some, Mo.bad_bind, Mo.raise_bind, Mo.nox_pure, Mo.nox_bind, Mo.nox_nox, Mo.nox_bad, initF, argSl, List.map_cons, List.map_nil, List.length_cons, List.length_nil, Nat.reduceSub, Nat.reduceAdd, List.replicate_succ, List.replicate_zero, List.cons_append, List.nil_append, List.append_nil, List.getElem?_cons_zero, List.getElem?_cons_succ, List.set_cons_zero, List.set_cons_succ, slD, slP, slO, dThen, dSkip, dSet, dPar, dRet, dIfS, dV, dC, dNil, dCons, dTup, dLst, dAnd, dOr, dNot, dIf, dAndT, dOrT, dNotT, dB, asB, dOp, dCb, dIsi, dCall, dACons, dANil, dAPen, dSl, dP, dNoP, asI, dAsg, gtN, gtT, gtNs, dSeq, asSeq, dIt, dYes, dRev, dNeg, gNeg, if_true, if_false, reduceIte, reduceCtorEq, few_ok, Nat.reduceLeDiff, Nat.zero_le, gAdd]
          exact .pure ⟨_, rfl, 1 + z, ⟨by omega, by omega⟩, rfl⟩
        | false =>
          simp only [Mo.bind_assoc, Mo.pure_bind, Mo.of_some, Mo.bad_bind, Mo.raise_bind, Mo.nox_pure, Mo.nox_bind, Mo.nox_nox, Mo.nox_bad, initF, argSl, List.map_cons, List.map_nil, List.length_cons, List.length_nil, Nat.reduceSub, Nat.reduceAdd, List.replicate_succ, List.replicate_zero, List.cons_append, List.nil_append, List.append_nil, List.getElem?_cons_zero, List.getElem?_cons_succ, List.set_cons_zero, List.set_cons_succ, slD, slP, slO, dThen, dSkip, dSet, dPar, dRet, dIfS, dV, dC, dNil, dCons, dTup, dLst, dAnd, dOr, dNot, dIf, dAndT, dOrT, dNotT, dB, asB, dOp, dCb, dIsi, dCall, dACons, dANil, dAPen, dSl, dP, dNoP, asI, dAsg, gtN, gtT, gtNs, dSeq, asSeq, dIt, dYes, dRev, dNeg, gNeg, if_true, if_false, reduceIte, reduceCtorEq, few_ok, Nat.reduceLeDiff, Nat.zero_le, gLt, t]
          refine Y.bind (small_ok ns (by decide) (by decide) c2) fun x hx => ?_
          obtain ⟨b, rfl, b0, b1⟩ := hx
          try simp only [Mo.bind_assoc, Mo.pure_bind, Mo.of_some, Mo.bad_bind, Mo.raise_bind, Mo.nox_pure, Mo.nox_bind, Mo.nox_nox, Mo.nox_bad, initF, argSl, List.map_cons, List.map_nil, List.length_cons, List.length_nil, Nat.reduceSub, Nat.reduceAdd, List.replicate_succ, List.replicate_zero, List.cons_append, List.nil_append, List.append_nil, List.getElem?_cons_zero, List.getElem?_cons_succ, List.set_cons_zero, List.set_cons_succ, slD, slP, slO, dThen, dSkip, dSet, dPar, dRet, dIfS, dV, dC, dNil, dCons, dTup, dLst, dAnd, dOr, dNot, dIf, dAndT, dOrT, dNotT, dB, asB, dOp, dCb, dIsi, dCall, dACons, dANil, dAPen, dSl, dP, dNoP, asI, dAsg, gtN, gtT, gtNs, dSeq, asSeq, dIt, dYes, dRev, dNeg, gNeg, if_true, if_false, reduceIte, reduceCtorEq, few_ok, Nat.reduceLeDiff, Nat.zero_le]
          refine Y.bind (draw_ok ns (b := b) (by omega) (by omega)) fun x hx => ?_
          obtain ⟨z, rfl, z0, z1⟩ := hx
          simp only [Mo.bind_assoc, Mo.pure_bind, Mo.of_some, Mo.bad_bind, Mo.raise_bind, Mo.nox_pure, Mo.nox_bind, Mo.nox_nox, Mo.nox_bad, initF, argSl, List.map_cons, List.map_nil, List.length_cons, List.length_nil, Nat.reduceSub, Nat.reduceAdd, List.replicate_succ, List.replicate_zero, List.cons_append, List.nil_append, List.append_nil, List.getElem?_cons_zero, List.getElem?_cons_succ, List.set_cons_zero, List.set_cons_succ, slD, slP, slO, dThen, dSkip, dSet, dPar, dRet, dIfS, dV, dC, dNil, dCons, dTup, dLst, dAnd, dOr, dNot, dIf, dAndT, dOrT, dNotT, dB, asB, dOp, dCb, dIsi, dCall, dACons, dANil, dAPen, dSl, dP, dNoP, asI, dAsg, gtN, gtT, gtNs, dSeq, asSeq, dIt, dYes, dRev, dNeg, gNeg, if_true, if_false, reduceIte, reduceCtorEq, few_ok, Nat.reduceLeDiff, Nat.zero_le, gAdd]
          exact .pure ⟨_, rfl, 1 + z, ⟨by omega, by omega⟩, rfl⟩
      · obtain ⟨pl, hp, rfl⟩ := hf
        try simp only [Mo.bind_assoc, Mo.pure_bind, Mo.of_some, Mo.bad_bind, Mo.raise_bind, Mo.nox_pure, Mo.nox_bind, Mo.nox_nox, Mo.nox_bad, initF, argSl, List.map_cons, List.map_nil, List.length_cons, List.length_nil, Nat.reduceSub, Nat.reduceAdd, List.replicate_succ, List.replicate_zero, List.cons_append, List.nil_append, List.append_nil, List.getElem?_cons_zero, List.getElem?_cons_succ, List.set_cons_zero, List.set_cons_succ, slD, slP, slO, dThen, dSkip, dSet, dPar, dRet, dIfS, dV, dC, dNil, dCons, dTup, dLst, dAnd, dOr, dNot, dIf, dAndT, dOrT, dNotT, dB, asB, dOp, dCb, dIsi, dCall, dACons, dANil, dAPen, dSl, dP, dNoP, asI, dAsg, gtN, gtT, gtNs, dSeq, asSeq, dIt, dYes, dRev, dNeg, gNeg, if_true, if_false, reduceIte, reduceCtorEq, few_ok, Nat.reduceLeDiff, Nat.zero_le]
        rw [← hM]
        refine Y.bind (machine_ok ns (by omega) (by omega) (by omega) (by omega) (by omega) (by omega) hmo) fun d hm' => ?_
        obtain ⟨m, rfl, hmk⟩ := hm'
        have la : gAdd (.tuple (ms.map eM)) (.tuple [eM m]) = some (.tuple ((ms ++ [m]).map eM)) := by
          rw [List.map_append]
          exact if_pos (by simp only [List.length_cons, List.length_nil, List.length_map]; omega)
        simp only [Mo.bind_assoc, Mo.pure_bind, Mo.of_some, Mo.bad_bind, Mo.raise_bind, Mo.nox_pure, Mo.nox_bind, Mo.nox_nox, Mo.nox_bad, initF, argSl, List.map_cons, List.map_nil, List.length_cons, List.length_nil, Nat.reduceSub, Nat.reduceAdd, List.replicate_succ, List.replicate_zero, List.cons_append, List.nil_append, List.append_nil, List.getElem?_cons_zero, List.getElem?_cons_succ, List.set_cons_zero, List.set_cons_succ, slD, slP, slO, dThen, dSkip, dSet, dPar, dRet, dIfS, dV, dC, dNil, dCons, dTup, dLst, dAnd, dOr, dNot, dIf, dAndT, dOrT, dNotT, dB, asB, dOp, dCb, dIsi, dCall, dACons, dANil, dAPen, dSl, dP, dNoP, asI, dAsg, gtN, gtT, gtNs, dSeq, asSeq, dIt, dYes, dRev, dNeg, gNeg, if_true, if_false, reduceIte, reduceCtorEq, few_ok, Nat.reduceLeDiff, Nat.zero_le, la]
        refine .pure ⟨_, .inl rfl, _, _, _, ?_, fun m' hm => ?_, rfl⟩
        · simp only [List.length_append, List.length_cons, List.length_nil]
          omega
        · rcases List.mem_append.mp hm with h | h
          · exact hms m' h
          · rcases List.mem_singleton.mp h with rfl
            exact hmk
    · obtain ⟨ms, x, y, el, hms, rfl⟩ := hf
      rw [upto_len] at el
      exact ⟨_, rfl, ms, x, y, by omega, hms, rfl⟩
  obtain ⟨ms, x, y, el, hms, rfl⟩ := hf
  refine .eq (x := .rt (eP ⟨la, le, ms⟩)) (by unfold eP; simp only [Mo.bind_assoc, Mo.pure_bind, Mo.of_some, Mo.bad_bind, Mo.raise_bind, Mo.nox_pure, Mo.nox_bind, Mo.nox_nox, Mo.nox_bad, initF, argSl, List.map_cons, List.map_nil, List.length_cons, List.length_nil, Nat.reduceSub, Nat.reduceAdd, List.replicate_succ, List.replicate_zero, List.cons_append, List.nil_append, List.append_nil, List.getElem?_cons_zero, List.getElem?_cons_succ, List.set_cons_zero, List.set_cons_succ, slD, slP, slO, dThen, dSkip, dSet, dPar, dRet, dIfS, dV, dC, dNil, dCons, dTup, dLst, dAnd, dOr, dNot, dIf, dAndT, dOrT, dNotT, dB, asB, dOp, dCb, dIsi, dCall, dACons, dANil, dAPen, dSl, dP, dNoP, asI, dAsg, gtN, gtT, gtNs, dSeq, asSeq, dIt, dYes, dRev, dNeg, gNeg, if_true, if_false, reduceIte, reduceCtorEq, few_ok, Nat.reduceLeDiff, Nat.zero_le]) ⟨_, rfl, _, rfl, ha, hb, hms, ?_, ?_⟩
  · show 1 ≤ ms.length
    omega
  · show ms.length ≤ 3
    omega
def cutM (k : Nat) (m : Mc) : Mc := ⟨m.pl, m.st.take k⟩
theorem wide_ok (ns : List Int) {mo : Nat} (hmo : mo ≤ 24) : Y (f_law_wide_program [.pen ns, .d (.int (mo : Nat))]) fun d => ∃ p, d = eP p ∧ POk 8 p := by
  refine Y.fn ?_
  unfold b_law_wide_program
  refine Y.then (φ := fun f => ∃ p, POk 24 p ∧ f = [.pen ns, .d (.int (mo : Nat)), .d (.int p.ln), .d (.int p.lt), .d (.tuple (p.ms.map eM)), .no, .no]) ?_ fun f hf => ?_
  · have fin : ∀ k : Nat, k ≤ 24 → Y ((f_law_drawn_program [.pen ns, .d (.int (k : Nat))]).bind fun d => (Mo.of (gtT [2, 3, 4] d [.pen ns, .d (.int (mo : Nat)), .no, .no, .no, .no, .no])).bind fun f => Mo.pure (Out.nx f)) fun o => ∃ f, o = .nx f ∧ ∃ p, POk 24 p ∧ f = [.pen ns, .d (.int (mo : Nat)), .d (.int p.ln), .d (.int p.lt), .d (.tuple (p.ms.map eM)), .no, .no] := fun k hk => by
      refine Y.bind (program_ok ns hk) fun d hd => ?_
      obtain ⟨p, rfl, hp⟩ := hd
      refine .eq (x := .nx _) rfl ⟨_, rfl, p, ⟨hp.ln, hp.lt, fun m hm => ?_, hp.ne, hp.few⟩, rfl⟩
      have q := hp.ms m hm
      exact ⟨q.pl, q.st, Nat.le_trans q.few hk, q.up⟩
    simp only [Mo.bind_assoc, Mo.pure_bind, Mo.of_some, Mo.bad_bind, Mo.raise_bind, Mo.nox_pure, Mo.nox_bind, Mo.nox_nox, Mo.nox_bad, initF, argSl, List.map_cons, List.map_nil, List.length_cons, List.length_nil, Nat.reduceSub, Nat.reduceAdd, List.replicate_succ, List.replicate_zero, List.cons_append, List.nil_append, List.append_nil, List.getElem?_cons_zero, List.getElem?_cons_succ, List.set_cons_zero, List.set_cons_succ, slD, slP, slO, dThen, dSkip, dSet, dPar, dRet, dIfS, dV, dC, dNil, dCons, dTup, dLst, dAnd, dOr, dNot, dIf, dAndT, dOrT, dNotT, dB, asB, dOp, dCb, dIsi, dCall, dACons, dANil, dAPen, dSl, dP, dNoP, asI, dAsg, gtN, gtT, gtNs, dSeq, asSeq, dIt, dYes, dRev, dNeg, gNeg, if_true, if_false, reduceIte, reduceCtorEq, few_ok, Nat.reduceLeDiff, Nat.zero_le]
    refine Y.bind (draw_in ns (b := 6) (by decide) (by decide)) fun x hx => ?_
    obtain ⟨z, rfl, hz⟩ := hx
    cases t : decide (z = 5) with
    | true =>
      simp only [Mo.bind_assoc, Mo.pure_bind, Mo.of_some, Mo.bad_bind, Mo.raise_bind, Mo.nox_pure, Mo.nox_bind, Mo.nox_nox, Mo.nox_bad, initF, argSl, List.map_cons, List.map_nil, List.length_cons, List.length_nil, Nat.reduceSub, Nat.reduceAdd, List.replicate_succ, List.replicate_zero, List.cons_append, List.nil_append, List.append_nil, List.getElem?_cons_zero, List.getElem?_cons_succ, List.set_cons_zero, List.set_cons_succ, slD, slP, slO, dThen, dSkip, dSet, dPar, dRet, dIfS, dV, dC, dNil, dCons, dTup, dLst, dAnd, dOr, dNot, dIf, dAndT, dOrT, dNotT, dB, asB, dOp, dCb, dIsi, dCall, dACons, dANil, dAPen, dSl, dP, dNoP, asI, dAsg, gtN, gtT, gtNs, dSeq, asSeq, dIt, dYes, dRev, dNeg, gNeg, if_true, if_false, reduceIte, reduceCtorEq, few_ok, Nat.reduceLeDiff, Nat.zero_le, gEq_int, t]
      have := fin 24 (by decide)
      unfold gtT at this
      exact this
    | false =>
      simp only [Mo.bind_assoc, Mo.pure_bind, Mo.of_some, Mo.bad_bind, Mo.raise_bind, Mo.nox_pure, Mo.nox_bind, Mo.nox_nox, Mo.nox_bad, initF, argSl, List.map_cons, List.map_nil, List.length_cons, List.length_nil, Nat.reduceSub, Nat.reduceAdd, List.replicate_succ, List.replicate_zero, List.cons_append, List.nil_append, List.append_nil, List.getElem?_cons_zero, List.getElem?_cons_succ, List.set_cons_zero, List.set_cons_succ, slD, slP, slO, dThen, dSkip, dSet, dPar, dRet, dIfS, dV, dC, dNil, dCons, dTup, dLst, dAnd, dOr, dNot, dIf, dAndT, dOrT, dNotT, dB, asB, dOp, dCb, dIsi, dCall, dACons, dANil, dAPen, dSl, dP, dNoP, asI, dAsg, gtN, gtT, gtNs, dSeq, asSeq, dIt, dYes, dRev, dNeg, gNeg, if_true, if_false, reduceIte, reduceCtorEq, few_ok, Nat.reduceLeDiff, Nat.zero_le, gEq_int, t]
      have := fin mo hmo
      unfold gtT at this
      exact this
  obtain ⟨p, hp, rfl⟩ := hf
  have lc : lcGo (gtT [5, 6]) dYes (dTup (dCons (dV 5) (dCons (dSl (dV 6) dNoP (dP (dC (.int 8)))) dNil))) [.pen ns, .d (.int (mo : Nat)), .d (.int p.ln), .d (.int p.lt), .d (.tuple (p.ms.map eM)), .no, .no] (p.ms.map eM) = Mo.pure (p.ms.map fun m => eM (cutM 8 m)) := by
    refine lc_mapA p.ms fun m hm => ⟨_, rfl, ?_⟩
    simp only [Mo.bind_assoc, Mo.pure_bind, Mo.of_some, Mo.bad_bind, Mo.raise_bind, Mo.nox_pure, Mo.nox_bind, Mo.nox_nox, Mo.nox_bad, initF, argSl, List.map_cons, List.map_nil, List.length_cons, List.length_nil, Nat.reduceSub, Nat.reduceAdd, List.replicate_succ, List.replicate_zero, List.cons_append, List.nil_append, List.append_nil, List.getElem?_cons_zero, List.getElem?_cons_succ, List.set_cons_zero, List.set_cons_succ, slD, slP, slO, dThen, dSkip, dSet, dPar, dRet, dIfS, dV, dC, dNil, dCons, dTup, dLst, dAnd, dOr, dNot, dIf, dAndT, dOrT, dNotT, dB, asB, dOp, dCb, dIsi, dCall, dACons, dANil, dAPen, dSl, dP, dNoP, asI, dAsg, gtN, gtT, gtNs, dSeq, asSeq, dIt, dYes, dRev, dNeg, gNeg, if_true, if_false, reduceIte, reduceCtorEq, few_ok, Nat.reduceLeDiff, Nat.zero_le, gSl, show Dl.cutD (m.st.map eS) none (some 8) = (m.st.map eS).take 8 from cut_take _ 8, ← List.map_take]
    rfl
  have hf := hp.few
  refine .eq (x := .rt (eP ⟨p.ln, p.lt, p.ms.map (cutM 8)⟩)) ?_ ⟨_, rfl, _, rfl, hp.ln, hp.lt, fun m hm => ?_, ?_, ?_⟩
  · have e := lcE_eq (di := dSeq (dV 4)) (vs := [5, 6]) (fm := [.pen ns, .d (.int (mo : Nat)), .d (.int p.ln), .d (.int p.lt), .d (.tuple (p.ms.map eM)), .no, .no]) rfl (by rw [List.length_map]; omega) lc
    simp only [Mo.bind_assoc, Mo.pure_bind, Mo.of_some, Mo.bad_bind, Mo.raise_bind, Mo.nox_pure, Mo.nox_bind, Mo.nox_nox, Mo.nox_bad, initF, argSl, List.map_cons, List.map_nil, List.length_cons, List.length_nil, Nat.reduceSub, Nat.reduceAdd, List.replicate_succ, List.replicate_zero, List.cons_append, List.nil_append, List.append_nil, List.getElem?_cons_zero, List.getElem?_cons_succ, List.set_cons_zero, List.set_cons_succ, slD, slP, slO, dThen, dSkip, dSet, dPar, dRet, dIfS, dV, dC, dNil, dCons, dTup, dLst, dAnd, dOr, dNot, dIf, dAndT, dOrT, dNotT, dB, asB, dOp, dCb, dIsi, dCall, dACons, dANil, dAPen, dSl, dP, dNoP, asI, dAsg, gtN, gtT, gtNs, dSeq, asSeq, dIt, dYes, dRev, dNeg, gNeg, if_true, if_false, reduceIte, reduceCtorEq, few_ok, Nat.reduceLeDiff, Nat.zero_le, e, gTupOf]
    unfold eP
    rw [List.map_map]
    rfl
  · obtain ⟨c, hc, rfl⟩ := List.mem_map.mp hm
    have q := hp.ms c hc
    refine ⟨q.pl, fun s hs => q.st s (List.mem_of_mem_take hs), ?_, ?_⟩
    · show (c.st.take 8).length ≤ 8
      rw [List.length_take]
      omega
    · show Asc ((c.st.take 8).map eS)
      rw [List.map_take]
      exact List.Pairwise.sublist (List.take_sublist _ _) q.up
  · show 1 ≤ (p.ms.map (cutM 8)).length
    rw [List.length_map]
    exact hp.ne
  · show (p.ms.map (cutM 8)).length ≤ 3
    rw [List.length_map]
    exact hp.few
end Rf

set_option maxRecDepth 100000
set_option maxHeartbeats 4000000
namespace Rf
open PySem PySem.Spec PyProof.Rows L2 Gd Dt Dl Ee Sd
/-! ### what can be shown -/
theorem vl_i {D : Nat} {i n : Int} (h : In n i) (hn : n ≤ 100) : Vl 0 D 0 (.int i) := .sm (by have := h.1; omega) (by have := h.2; omega)
theorem vl_ints {w : List Int} {n : Int} {W : Nat} (h : ∀ c ∈ w, In n c) (hn : n ≤ 100) (l : w.length ≤ W) : Vl 0 1 W (tupI w) := by
  have := (Vls.all (n := 0) (D := 0) (N := 0) (M := W) (xs := w.map .int) (fun x hx => by
    obtain ⟨c, hc, rfl⟩ := List.mem_map.mp hx
    exact vl_i (h c hc) hn) (by rw [List.length_map]; exact l)).tup
  rw [Nat.zero_add, Nat.mul_one] at this
  exact this
theorem vl_wds {ws : List (List Int)} {n : Int} {W : Nat} (h : ∀ w ∈ ws, WOk n W w) (hn : n ≤ 100) (l : ws.length ≤ 3) : Vl 0 2 (3 * (W + 1)) (eWs ws) :=
  (Vls.all (n := 0) (D := 1) (N := W) (M := 3) (xs := ws.map tupI) (fun x hx => by
    obtain ⟨w, hw, rfl⟩ := List.mem_map.mp hx
    exact vl_ints (h w hw).1 hn (h w hw).2) (by rw [List.length_map]; exact l)).tup
theorem PsOk.in5 {N : Nat} {ln lt : Int} : ∀ {ms : List Mc} {is : List Int}, PsOk ms is → (∀ m ∈ ms, MOk ln lt N m) → ∀ i ∈ is, In 5 i
  | [], [], _, _, i, hi => absurd hi List.not_mem_nil
  | m :: ms, j :: is, h, k, i, hi => by
    have q := (k m List.mem_cons_self).pl
    rcases List.mem_cons.mp hi with rfl | hi
    · exact ⟨h.1.1, by have := h.1.2; omega⟩
    · exact PsOk.in5 h.2 (fun m' hm => k m' (List.mem_cons_of_mem _ hm)) i hi
theorem LOk.vl {N W : Nat} {p : Pg} {l : Lt} (hp : POk N p) (h : LOk p W l) : Vl 0 3 (3 * W + 8) (eL l) := by
  have h1 := vl_ints (W := 3) (PsOk.in5 h.ps hp.ms) (by decide) (h.p3 hp)
  have h2 := vl_wds (W := W) h.ws (by have := hp.lt; omega) (h.w3 hp)
  have := (Vls.cons (n := 0) (D := 2) (h1.up (Nat.le_refl _) (by decide) (Nat.le_refl _)) (Vls.cons h2 (Vls.nil (N := 0)))).tup
  exact this.up (Nat.le_refl _) (Nat.le_refl _) (by omega)
theorem vl_txt {D : Nat} {w : Str} (h : w ∈ txs) (h2 : w.cps.size ≤ 8) : Vl 0 D 8 (.str w) := ⟨by simp only [gd]; exact decide_eq_true h, Nat.zero_le _, h2⟩
theorem vl_act {ln lt : Int} {a : Ac} (h : AOk ln lt a) (hl : ln ≤ 100) (ht : lt ≤ 100) : Vl 0 1 12 (eA a) := by
  cases a with
  | send l c => exact ((Vls.cons (n := 0) (D := 0) (vl_txt (by decide +kernel) (by decide +kernel)) (Vls.cons (vl_i h.1 hl) (Vls.cons (vl_i h.2 ht) (Vls.nil (N := 0))))).tup).up (Nat.le_refl _) (Nat.le_refl _) (by decide)
  | take l c => exact ((Vls.cons (n := 0) (D := 0) (vl_txt (by decide +kernel) (by decide +kernel)) (Vls.cons (vl_i h.1 hl) (Vls.cons (vl_i h.2 ht) (Vls.nil (N := 0))))).tup).up (Nat.le_refl _) (Nat.le_refl _) (by decide)
  | test l => exact ((Vls.cons (n := 0) (D := 0) (vl_txt (by decide +kernel) (by decide +kernel)) (Vls.cons (vl_i h hl) (Vls.nil (N := 0)))).tup).up (Nat.le_refl _) (Nat.le_refl _) (by decide)
  | rest => exact ((Vls.cons (n := 0) (D := 0) (vl_txt (by decide +kernel) (by decide +kernel)) (Vls.nil (N := 0))).tup).up (Nat.le_refl _) (Nat.le_refl _) (by decide)
theorem vl_step {ln lt pl : Int} {s : St} (h : SOk ln lt pl s) (hl : ln ≤ 100) (ht : lt ≤ 100) (hp : pl ≤ 100) : Vl 0 2 15 (eS s) :=
  ((Vls.cons (n := 0) (D := 1) (vl_i h.fr hp) (Vls.cons (vl_act h.ac hl ht) (Vls.cons (vl_i h.to hp) (Vls.nil (N := 0))))).tup).up (Nat.le_refl _) (Nat.le_refl _) (by decide)
theorem vl_mach {ln lt : Int} {N : Nat} {m : Mc} (h : MOk ln lt N m) (hl : ln ≤ 100) (ht : lt ≤ 100) : Vl 0 4 (N * 16 + 2) (eM m) := by
  have q := h.pl
  have k := (Vls.all (n := 0) (D := 2) (N := 15) (M := N) (xs := m.st.map eS) (fun x hx => by
    obtain ⟨s, hs, rfl⟩ := List.mem_map.mp hx
    exact vl_step (h.st s hs) hl ht (by omega)) (by rw [List.length_map]; exact h.few)).tup
  exact ((Vls.cons (n := 0) (D := 3) (N := 0) (vl_i (n := 6) (show In 6 m.pl from ⟨by omega, by omega⟩) (by decide)) (Vls.cons k (Vls.nil (N := 0)))).tup).up (Nat.le_refl _) (Nat.le_refl _) (by omega)
theorem POk.vl {N : Nat} {p : Pg} (h : POk N p) : Vl 0 6 (N * 48 + 12) (eP p) := by
  have q1 := h.ln
  have q2 := h.lt
  have k := (Vls.all (n := 0) (D := 4) (N := N * 16 + 2) (M := 3) (xs := p.ms.map eM) (fun x hx => by
    obtain ⟨m, hm, rfl⟩ := List.mem_map.mp hx
    exact vl_mach (h.ms m hm) (by omega) (by omega)) (by rw [List.length_map]; exact h.few)).tup
  exact ((Vls.cons (n := 0) (D := 5) (N := 0) (vl_i (n := 4) (show In 4 p.ln from ⟨by omega, by omega⟩) (by decide)) (Vls.cons (N := 0) (vl_i (n := 4) (show In 4 p.lt from ⟨by omega, by omega⟩) (by decide)) (Vls.cons k (Vls.nil (N := 0))))).tup).up (Nat.le_refl _) (Nat.le_refl _) (by omega)
theorem vl_pair {D M1 M2 : Nat} {a b : PyData} (h : Vl 0 D M1 a) (k : Vl 0 D M2 b) : Vl 0 (D + 1) (M1 + M2 + 2) (.tuple [a, b]) :=
  ((Vls.cons h (Vls.cons k (Vls.nil (N := 0)))).tup).up (Nat.le_refl _) (Nat.le_refl _) (by omega)
/-- repr's of two equal things -/
theorem ne_rep {a b : PyData} (h : gRepr [a] = some (.str a.shown)) (e : a = b) : gNe (.str a.shown) (.str b.shown) = some (.bool false) := by
  subst e
  exact gNe_s (decide_eq_true rfl)
/-! ### lots one step back: of what size, and all of them -/
theorem WOk.up {lt : Int} {N M : Nat} {w : List Int} (h : WOk lt N w) (k : N ≤ M) : WOk lt M w := ⟨h.1, Nat.le_trans h.2 k⟩
theorem LOk.up {p : Pg} {N M : Nat} {l : Lt} (h : LOk p N l) (k : N ≤ M) : LOk p M l := ⟨h.ps, h.wl, fun w hw => (h.ws w hw).up k⟩
theorem mem_set' {α : Type} {xs : List α} {n : Nat} {y x : α} (h : x ∈ xs.set n y) : x = y ∨ x ∈ xs := by
  rcases List.mem_or_eq_of_mem_set h with h | h
  · exact .inr h
  · exact .inl h
theorem wB_ok {ws r : List (List Int)} {a : Ac} {ln lt : Int} {W : Nat} (ha : AOk ln lt a) (h : ∀ w ∈ ws, WOk lt W w) (e : wB ws a = some r) : ∀ w ∈ r, WOk lt (W + 1) w := by
  have base : ∀ w ∈ ws, WOk lt (W + 1) w := fun w hw => (h w hw).up (Nat.le_succ _)
  unfold wB at e
  split at e
  · split at e
    · rename_i w ew
      have hw := h w (List.mem_of_getElem? ew)
      split at e
      · split at e
        · cases e
          intro u hu
          rcases mem_set' hu with rfl | hu
          · refine ⟨fun c hc => hw.1 c ((List.dropLast_sublist _).subset hc), ?_⟩
            rw [List.length_dropLast]
            have := hw.2
            omega
          · exact base u hu
        · cases e; exact base
      · cases e; exact base
    · cases e
  · split at e
    · rename_i w ew
      have hw := h w (List.mem_of_getElem? ew)
      cases e
      intro u hu
      rcases mem_set' hu with rfl | hu
      · refine ⟨fun c hc => ?_, by rw [List.length_cons]; exact Nat.succ_le_succ hw.2⟩
        rcases List.mem_cons.mp hc with rfl | hc
        · exact ha.2
        · exact hw.1 c hc
      · exact base u hu
    · cases e
  · split at e
    · split at e
      · cases e; exact base
      · cases e
    · cases e
  · cases e; exact base
theorem lB_ok {p : Pg} {N W : Nat} {m i : Int} {c : Mc} {s : St} {l r : Lt} (hp : POk N p) (hs : IsSt p m i c s) (hl : LOk p W l) (e : lB s m l = some r) : LOk p (W + 1) r := by
  have ok := hs.sok hp
  unfold lB at e
  split at e
  · split at e
    · obtain ⟨ws, ew, rfl⟩ := Option.map_eq_some_iff.mp e
      refine ⟨PsOk.set hl.ps _ c _ hs.em ok.fr, ?_, wB_ok ok.ac hl.ws ew⟩
      show ws.length = _
      rw [wB_len ew, hl.wl]
    · cases e
  · cases e
/-- what lies one step back by all steps, in their order -/
def sAt (p : Pg) (q : Int × Int) : Option St := (p.ms[q.1.toNat]?).bind fun c => c.st[q.2.toNat]?
theorem IsSt.sAt {p : Pg} {m i : Int} {c : Mc} {s : St} (h : IsSt p m i c s) : Rf.sAt p (m, i) = some s := by
  show (p.ms[m.toNat]?).bind _ = _
  rw [h.em]
  exact h.ei
def bkAt (p : Pg) (l : Lt) (q : Int × Int) : Option Lt := (sAt p q).bind fun s => lB s q.1 l
def bks (p : Pg) (l : Lt) : List Lt := (prs 0 p.ms).filterMap (bkAt p l)
theorem pairs_back {p : Pg} {N W : Nat} {l : Lt} (hp : POk N p) (hl : LOk p W l) (hW : W ≤ 1000) {q : Int × Int} (hq : q ∈ prs 0 p.ms) :
    f_back [.d (eP p), .d (eL l), .d (.int q.1), .d (.int q.2)] = Mo.pure (eo (bkAt p l q)) ∧ f_law_lot_back [.d (eP p), .d (eL l), .d (.int q.1), .d (.int q.2)] = Mo.pure (.list (eoL (bkAt p l q))) ∧ ∀ r, bkAt p l q = some r → LOk p (W + 1) r := by
  obtain ⟨c, s, hs⟩ := prs_isSt hq
  have e : bkAt p l q = lB s q.1 l := by
    unfold bkAt
    rw [hs.sAt]
    rfl
  rw [e]
  exact ⟨back_eq hp hs hl hW, lot_back_eq hp hs hl hW, fun r hr => lB_ok hp hs hl hr⟩
theorem notNone_eL (l : Lt) : notNone (eL l) = true := rfl
theorem fm_eo : ∀ qs : List (Option Lt), ((qs.map eo).filter fun d => notNone d).map (fun d => d) = (qs.filterMap id).map eL
  | [] => rfl
  | none :: qs => fm_eo qs
  | some l :: qs => by
    have r := fm_eo qs
    show eL l :: ((qs.map eo).filter fun d => notNone d).map (fun d => d) = eL l :: (qs.filterMap id).map eL
    rw [r]
theorem bks_len {p : Pg} {N : Nat} {l : Lt} (hp : POk N p) : (bks p l).length ≤ 3 * N := Nat.le_trans (List.length_filterMap_le ..) hp.prs_len
theorem all_back_eq {p : Pg} {N W : Nat} {l : Lt} (hp : POk N p) (hN : N ≤ 20) (hl : LOk p W l) (hW : W ≤ 1000) : f_all_back [.d (eP p), .d (eL l)] = Mo.pure (.tuple (sortU ((bks p l).map eL))) := by
  refine fn_pure ?_
  unfold b_all_back
  have l1 := hp.prs_len
  have e1 := all_steps_eq hp (by omega)
  have c1 : dLc (dSeq (dCall 1 f_all_steps (dACons (dV 0) dANil))) (gtT [3, 4]) [3, 4] dYes (dCall 4 f_back (dACons (dV 0) (dACons (dV 1) (dACons (dV 3) (dACons (dV 4) dANil))))) [.d (eP p), .d (eL l), .no, .no, .no, .no] = Mo.pure (.list (((prs 0 p.ms).map (bkAt p l)).map eo)) := by
    refine lcE_eq (xs := (prs 0 p.ms).map ePr) ?_ (by rw [List.length_map]; omega) ?_
    · simp only [Mo.bind_assoc, Mo.pure_bind, Mo.of_some, Mo.bad_bind, Mo.raise_bind, Mo.nox_pure, Mo.nox_bind, Mo.nox_nox, Mo.nox_bad, initF, argSl, List.map_cons, List.map_nil, List.length_cons, List.length_nil, Nat.reduceSub, Nat.reduceAdd, List.replicate_succ, List.replicate_zero, List.cons_append, List.nil_append, List.append_nil, List.getElem?_cons_zero, List.getElem?_cons_succ, List.set_cons_zero, List.set_cons_succ, slD, slP, slO, dThen, dSkip, dSet, dPar, dRet, dIfS, dV, dC, dNil, dCons, dTup, dLst, dAnd, dOr, dNot, dIf, dAndT, dOrT, dNotT, dB, asB, dOp, dCb, dIsi, dCall, dACons, dANil, dAPen, dSl, dP, dNoP, asI, dAsg, gtN, gtT, gtNs, dSeq, asSeq, dIt, dYes, dRev, dNeg, gNeg, if_true, if_false, reduceIte, reduceCtorEq, few_ok, Nat.reduceLeDiff, Nat.zero_le, e1]
    · rw [List.map_map]
      refine lc_mapA (h := fun q => eo (bkAt p l q)) _ fun q hq => ⟨_, rfl, ?_⟩
      have := (pairs_back hp hl hW hq).1
      simp only [Mo.bind_assoc, Mo.pure_bind, Mo.of_some, Mo.bad_bind, Mo.raise_bind, Mo.nox_pure, Mo.nox_bind, Mo.nox_nox, Mo.nox_bad, initF, argSl, List.map_cons, List.map_nil, List.length_cons, List.length_nil, Nat.reduceSub, Nat.reduceAdd, List.replicate_succ, List.replicate_zero, List.cons_append, List.nil_append, List.append_nil, List.getElem?_cons_zero, List.getElem?_cons_succ, List.set_cons_zero, List.set_cons_succ, slD, slP, slO, dThen, dSkip, dSet, dPar, dRet, dIfS, dV, dC, dNil, dCons, dTup, dLst, dAnd, dOr, dNot, dIf, dAndT, dOrT, dNotT, dB, asB, dOp, dCb, dIsi, dCall, dACons, dANil, dAPen, dSl, dP, dNoP, asI, dAsg, gtN, gtT, gtNs, dSeq, asSeq, dIt, dYes, dRev, dNeg, gNeg, if_true, if_false, reduceIte, reduceCtorEq, few_ok, Nat.reduceLeDiff, Nat.zero_le, wipeF, this]
  refine (then_nx (f := [.d (eP p), .d (eL l), .d (.list (((prs 0 p.ms).map (bkAt p l)).map eo)), .no, .no, .no]) ?_).trans ?_
  · show dSet 2 _ _ = _
    unfold dSet
    rw [show (initF 6 [.d (eP p), .d (eL l)]) = [.d (eP p), .d (eL l), .no, .no, .no, .no] from rfl, c1]
    rfl
  · have c2 : dLcL (dSeq (dV 2)) (gtN 5) [5] (dB (dNotN (dV 5))) (dV 5) [.d (eP p), .d (eL l), .d (.list (((prs 0 p.ms).map (bkAt p l)).map eo)), .no, .no, .no] = Mo.pure ((bks p l).map eL) := by
      refine lcL_eq (xs := ((prs 0 p.ms).map (bkAt p l)).map eo) rfl (by rw [List.length_map, List.length_map]; omega) ?_
      have := lc_eq (g := gtN 5) (t := dB (dNotN (dV 5))) (e := dV 5) (fm := [.d (eP p), .d (eL l), .d (.list (((prs 0 p.ms).map (bkAt p l)).map eo)), .no, .no, .no]) (p := fun d => notNone d) (h := fun d => d) (((prs 0 p.ms).map (bkAt p l)).map eo) fun x hx => ⟨_, rfl, by simp only [Mo.bind_assoc, Mo.pure_bind, Mo.of_some, Mo.bad_bind, Mo.raise_bind, Mo.nox_pure, Mo.nox_bind, Mo.nox_nox, Mo.nox_bad, initF, argSl, List.map_cons, List.map_nil, List.length_cons, List.length_nil, Nat.reduceSub, Nat.reduceAdd, List.replicate_succ, List.replicate_zero, List.cons_append, List.nil_append, List.append_nil, List.getElem?_cons_zero, List.getElem?_cons_succ, List.set_cons_zero, List.set_cons_succ, slD, slP, slO, dThen, dSkip, dSet, dPar, dRet, dIfS, dV, dC, dNil, dCons, dTup, dLst, dAnd, dOr, dNot, dIf, dAndT, dOrT, dNotT, dB, asB, dOp, dCb, dIsi, dCall, dACons, dANil, dAPen, dSl, dP, dNoP, asI, dAsg, gtN, gtT, gtNs, dSeq, asSeq, dIt, dYes, dRev, dNeg, gNeg, if_true, if_false, reduceIte, reduceCtorEq, few_ok, Nat.reduceLeDiff, Nat.zero_le, dNotN], fun _ => by simp only [Mo.bind_assoc, Mo.pure_bind, Mo.of_some, Mo.bad_bind, Mo.raise_bind, Mo.nox_pure, Mo.nox_bind, Mo.nox_nox, Mo.nox_bad, initF, argSl, List.map_cons, List.map_nil, List.length_cons, List.length_nil, Nat.reduceSub, Nat.reduceAdd, List.replicate_succ, List.replicate_zero, List.cons_append, List.nil_append, List.append_nil, List.getElem?_cons_zero, List.getElem?_cons_succ, List.set_cons_zero, List.set_cons_succ, slD, slP, slO, dThen, dSkip, dSet, dPar, dRet, dIfS, dV, dC, dNil, dCons, dTup, dLst, dAnd, dOr, dNot, dIf, dAndT, dOrT, dNotT, dB, asB, dOp, dCb, dIsi, dCall, dACons, dANil, dAPen, dSl, dP, dNoP, asI, dAsg, gtN, gtT, gtNs, dSeq, asSeq, dIt, dYes, dRev, dNeg, gNeg, if_true, if_false, reduceIte, reduceCtorEq, few_ok, Nat.reduceLeDiff, Nat.zero_le]⟩
      refine this.trans ?_
      rw [fm_eo, List.filterMap_map]
      rfl
    have fit := fit_L (ls := bks p l) (by have := bks_len (l := l) hp; omega)
    unfold dRet dCb dCons dSortSc
    rw [c2]
    show (((Mo.of (gSortSet (.list ((bks p l).map eL)))).bind _).bind _).bind _ = _
    unfold gSortSet
    dsimp only
    rw [if_pos fit]
    rfl
end Rf

set_option maxRecDepth 100000
set_option maxHeartbeats 4000000
namespace Rf
open PySem PySem.Spec PyProof.Rows L2 Gd Dt Dl Ee Sd
/-! ### the law's own pairs -/
def bAp : DS := dExt 1 (dLcL (dIt asR1 (dCons (dCb gLen (dCons (dOp gIx (dOp gIx (dOp gIx (dV 0) (dC (.int 2))) (dV 2)) (dC (.int 1))) dNil)) dNil)) (gtN 3) [3] dYes (dTup (dCons (dV 2) (dCons (dV 3) dNil))))
theorem ap_row {P : PyData} {ms : List Mc} {c : Mc} {k : Nat} {xs : List PyData} {s3 : Sl} (hP : gIx P (.int 2) = some (.tuple (ms.map eM))) (hc : ms[k]? = some c) (hl : c.st.length ≤ 1000) (hx : xs.length ≤ 10000) : bAp [.d P, .own xs, .d (.int (k : Nat)), s3] = Mo.pure (.nx [.d P, .own (xs ++ (row k c).map ePr), .d (.int (k : Nat)), s3]) := by
  have hk := (List.getElem?_eq_some_iff.mp hc).1
  have e1 : gIx (.tuple (ms.map eM)) (.int (k : Nat)) = some (eM c) := by
    show atI (ms.map eM) (k : Int) = _
    rw [atI_map, atI_get ⟨by omega, by omega⟩ (by rw [Int.toNat_natCast]; exact hc)]
    rfl
  have e2 : gIx (eM c) (.int 1) = some (.tuple (c.st.map eS)) := at1
  have e3 : dIt asR1 (dCons (dCb gLen (dCons (dOp gIx (dOp gIx (dOp gIx (dV 0) (dC (.int 2))) (dV 2)) (dC (.int 1))) dNil)) dNil) [.d P, .own xs, .d (.int (k : Nat)), s3] = Mo.pure (upto 0 c.st.length) := by
    have e0 : dCb gLen (dCons (dOp gIx (dOp gIx (dOp gIx (dV 0) (dC (.int 2))) (dV 2)) (dC (.int 1))) dNil) [.d P, .own xs, .d (.int (k : Nat)), s3] = Mo.pure (.int (c.st.length : Nat)) := by
      simp only [Mo.bind_assoc, Mo.pure_bind, Mo.of_some, Mo.bad_bind, Mo.raise_bind, Mo.nox_pure, Mo.nox_bind, Mo.nox_nox, Mo.nox_bad, initF, argSl, List.map_cons, List.map_nil, List.length_cons, List.length_nil, Nat.reduceSub, Nat.reduceAdd, List.replicate_succ, List.replicate_zero, List.cons_append, List.nil_append, List.append_nil, List.getElem?_cons_zero, List.getElem?_cons_succ, List.set_cons_zero, List.set_cons_succ, slD, slP, slO, dThen, dSkip, dSet, dPar, dRet, dIfS, dV, dC, dNil, dCons, dTup, dLst, dAnd, dOr, dNot, dIf, dAndT, dOrT, dNotT, dB, asB, dOp, dCb, dIsi, dCall, dACons, dANil, dAPen, dSl, dP, dNoP, asI, dAsg, gtN, gtT, gtNs, dSeq, asSeq, dIt, dYes, dRev, dNeg, gNeg, if_true, if_false, reduceIte, reduceCtorEq, few_ok, Nat.reduceLeDiff, Nat.zero_le, hP, e1, e2, gl_map]
    have := ran_go (fm := [.d P, .own xs, .d (.int (k : Nat)), s3]) (ds := dCons (dCb gLen (dCons (dOp gIx (dOp gIx (dOp gIx (dV 0) (dC (.int 2))) (dV 2)) (dC (.int 1))) dNil)) dNil) (z := (c.st.length : Nat)) (M := 1000) (by simp only [Mo.bind_assoc, Mo.pure_bind, Mo.of_some, Mo.bad_bind, Mo.raise_bind, Mo.nox_pure, Mo.nox_bind, Mo.nox_nox, Mo.nox_bad, initF, argSl, List.map_cons, List.map_nil, List.length_cons, List.length_nil, Nat.reduceSub, Nat.reduceAdd, List.replicate_succ, List.replicate_zero, List.cons_append, List.nil_append, List.append_nil, List.getElem?_cons_zero, List.getElem?_cons_succ, List.set_cons_zero, List.set_cons_succ, slD, slP, slO, dThen, dSkip, dSet, dPar, dRet, dIfS, dV, dC, dNil, dCons, dTup, dLst, dAnd, dOr, dNot, dIf, dAndT, dOrT, dNotT, dB, asB, dOp, dCb, dIsi, dCall, dACons, dANil, dAPen, dSl, dP, dNoP, asI, dAsg, gtN, gtT, gtNs, dSeq, asSeq, dIt, dYes, dRev, dNeg, gNeg, if_true, if_false, reduceIte, reduceCtorEq, few_ok, Nat.reduceLeDiff, Nat.zero_le, hP, e1, e2, gl_map]) (by omega) (by omega) (by decide)
    rw [Int.toNat_natCast] at this
    exact this
  have e4 : dLcL (dIt asR1 (dCons (dCb gLen (dCons (dOp gIx (dOp gIx (dOp gIx (dV 0) (dC (.int 2))) (dV 2)) (dC (.int 1))) dNil)) dNil)) (gtN 3) [3] dYes (dTup (dCons (dV 2) (dCons (dV 3) dNil))) [.d P, .own xs, .d (.int (k : Nat)), s3] = Mo.pure ((row k c).map ePr) := by
    refine lcL_eq e3 (by rw [upto_len]; omega) ?_
    rw [upto_eq, lc_mapA (en := fun k : Nat => PyData.int (k : Int)) (h := fun i : Nat => ePr ((k : Int), (i : Int))) _ fun x hx => ⟨_, rfl, ?_⟩]
    · unfold row
      rw [List.map_map]
      rfl
    · show (dTup (dCons (dV 2) (dCons (dV 3) dNil))) [.d P, .own xs, .d (.int (k : Nat)), .d (.int (x : Nat))] = _
      simp only [dTup, dCons, dNil, dV, List.getElem?_cons_succ, List.getElem?_cons_zero, slD, Mo.of_some, Mo.pure_bind, few_two]
      rfl
  unfold bAp dExt
  rw [e4]
  show ((Mo.of (few 100000 (xs ++ (row k c).map ePr) ())).bind fun _ => Mo.pure (Out.nx [.d P, .own (xs ++ (row k c).map ePr), .d (.int (k : Nat)), s3])) = _
  rw [few_ok (by rw [List.length_append, List.length_map, row_len]; omega)]
  rfl
theorem ap_go {P : PyData} {all : List Mc} {N : Nat} (hP : gIx P (.int 2) = some (.tuple (all.map eM))) (hN : N ≤ 1000) : ∀ (ms pre : List Mc) (xs : List PyData) (s2 s3 : Sl), all = pre ++ ms → (∀ c ∈ ms, c.st.length ≤ N) → xs.length + ms.length * N ≤ 10000 →
    ∃ s2' s3', forGo (gtN 2) bAp ((List.range' pre.length ms.length).map fun k : Nat => PyData.int (k : Int)) [.d P, .own xs, s2, s3] = Mo.pure (.nx [.d P, .own (xs ++ (prs pre.length ms).map ePr), s2', s3'])
  | [], pre, xs, s2, s3, _, _, _ => ⟨s2, s3, by simp [prs]; rfl⟩
  | c :: ms, pre, xs, s2, s3, e, hc, hx => by
    rw [List.length_cons, Nat.succ_mul] at hx
    have k := ap_row (P := P) (ms := all) (c := c) (k := pre.length) (xs := xs) (s3 := s3) hP (by rw [e]; simp) (Nat.le_trans (hc c List.mem_cons_self) hN) (by omega)
    obtain ⟨s2', s3', r⟩ := ap_go hP hN ms (pre ++ [c]) (xs ++ (row pre.length c).map ePr) (.d (.int (pre.length : Nat))) s3 (by rw [e]; simp) (fun c' h => hc c' (List.mem_cons_of_mem _ h)) (by
      rw [List.length_append, List.length_map, row_len]
      have := hc c List.mem_cons_self
      omega)
    refine ⟨s2', s3', ?_⟩
    rw [List.length_cons, List.range'_succ, List.map_cons]
    refine (for_nx (f1 := [.d P, .own xs, .d (.int (pre.length : Nat)), s3]) rfl k).trans ?_
    rw [List.length_append, List.length_singleton] at r
    rw [r]
    simp [prs]
theorem all_pairs_eq {N : Nat} {p : Pg} (h : POk N p) (hN : N ≤ 1000) : f_law_all_pairs [.d (eP p)] = Mo.pure (.list ((prs 0 p.ms).map ePr)) := by
  refine fn_pure ?_
  unfold b_law_all_pairs
  have hP : gIx (eP p) (.int 2) = some (.tuple (p.ms.map eM)) := at2
  have hf := h.few
  obtain ⟨s2, s3, r⟩ := ap_go (P := eP p) hP hN p.ms [] [] .no .no rfl (fun c hc => (h.ms c hc).few) (by
    have : p.ms.length * N ≤ 3 * 1000 := Nat.mul_le_mul hf hN
    simp only [List.length_nil]
    omega)
  generalize eP p = P at *
  refine (then_nx (f := [.d P, .own [], .no, .no]) rfl).trans ((then_nx (f := [.d P, .own ((prs 0 p.ms).map ePr), s2, s3]) ?_).trans rfl)
  unfold dFor
  have e0 : dIt asR1 (dCons (dCb gLen (dCons (dOp gIx (dV 0) (dC (.int 2))) dNil)) dNil) [.d P, .own [], .no, .no] = Mo.pure (upto 0 p.ms.length) := by
    have := ran_go (fm := [.d P, .own [], .no, .no]) (ds := dCons (dCb gLen (dCons (dOp gIx (dV 0) (dC (.int 2))) dNil)) dNil) (z := (p.ms.length : Nat)) (M := 1000) (by simp only [Mo.bind_assoc, Mo.pure_bind, Mo.of_some, Mo.bad_bind, Mo.raise_bind, Mo.nox_pure, Mo.nox_bind, Mo.nox_nox, Mo.nox_bad, initF, argSl, List.map_cons, List.map_nil, List.length_cons, List.length_nil, Nat.reduceSub, Nat.reduceAdd, List.replicate_succ, List.replicate_zero, List.cons_append, List.nil_append, List.append_nil, List.getElem?_cons_zero, List.getElem?_cons_succ, List.set_cons_zero, List.set_cons_succ, slD, slP, slO, dThen, dSkip, dSet, dPar, dRet, dIfS, dV, dC, dNil, dCons, dTup, dLst, dAnd, dOr, dNot, dIf, dAndT, dOrT, dNotT, dB, asB, dOp, dCb, dIsi, dCall, dACons, dANil, dAPen, dSl, dP, dNoP, asI, dAsg, gtN, gtT, gtNs, dSeq, asSeq, dIt, dYes, dRev, dNeg, gNeg, if_true, if_false, reduceIte, reduceCtorEq, few_ok, Nat.reduceLeDiff, Nat.zero_le, hP, gl_map]) (by omega) (by omega) (by decide)
    rw [Int.toNat_natCast] at this
    exact this
  rw [e0, Mo.pure_bind, upto_eq, List.range_eq_range']
  exact r
end Rf

set_option maxRecDepth 100000
set_option maxHeartbeats 4000000
namespace Rf
open PySem PySem.Spec PyProof.Rows L2 Gd Dt Dl Ee Sd
def b_law : DS := (dThen (dFor (dIt asR1 (dCons (dC (.int 6)) dNil)) (gtN 2) (dThen (dSet 3 (dCall 2 f_law_wide_program (dAPen 1 (dACons (dC (.int 6)) dANil))))
    (dFor (dIt asR1 (dCons (dC (.int 4)) dNil)) (gtN 4) (dThen (dSet 5 (dCall 3 f_law_drawn_lot (dAPen 1 (dACons (dV 3) (dACons (dCall 2 f_law_one_of (dAPen 1 (dACons (dLst (dCons (dC (.int 0)) (dCons (dC (.int 1)) (dCons (dC (.int 2)) (dCons (dC (.int 4)) dNil))))) dANil))) dANil)))))
    (dThen (dPar 6 7 (dCons (dCb gRepr (dCons (dTup (dCons (dV 3) (dCons (dV 5) dNil))) dNil)) (dCons (dLst dNil) dNil)))
    (dThen (dFor (dSeq (dCall 1 f_law_all_pairs (dACons (dV 3) dANil))) (gtT [8, 9]) (dThen (dSet 10 (dCall 4 f_law_lot_back (dACons (dV 3) (dACons (dV 5) (dACons (dV 8) (dACons (dV 9) dANil))))))
    (dThen (dIfS (dB (dOp gNe (dCb gRepr (dCons (dCall 4 f_back (dACons (dV 3) (dACons (dV 5) (dACons (dV 8) (dACons (dV 9) dANil))))) dNil)) (dCb gRepr (dCons (dIf (dB (dOp gNe (dV 10) (dLst dNil))) (dOp gIx (dV 10) (dC (.int 0))) (dC .none)) dNil)))) (dRet (dC (.bool false))) dSkip)
    (dSet 7 (dOp gAdd (dV 7) (dV 10))))))
    (dIfS (dOrT (dB (dOp gNe (dCb gRepr (dCons (dCall 2 f_all_back (dACons (dV 3) (dACons (dV 5) dANil))) dNil)) (dCb gRepr (dCons (dCb gTupOf (dCons (dSortSet (dV 7)) dNil)) dNil)))) (dB (dOp gNe (dCb gRepr (dCons (dTup (dCons (dV 3) (dCons (dV 5) dNil))) dNil)) (dV 6)))) (dRet (dC (.bool false))) dSkip)))))))
    (dRet (dC (.bool true))))
end Rf

set_option maxRecDepth 100000
set_option maxHeartbeats 4000000
namespace Rf
open PySem PySem.Spec PyProof.Rows L2 Gd Dt Dl Ee Sd
namespace K10
def bPair : DS := (dThen (dSet 10 (dCall 4 f_law_lot_back (dACons (dV 3) (dACons (dV 5) (dACons (dV 8) (dACons (dV 9) dANil))))))
    (dThen (dIfS (dB (dOp gNe (dCb gRepr (dCons (dCall 4 f_back (dACons (dV 3) (dACons (dV 5) (dACons (dV 8) (dACons (dV 9) dANil))))) dNil)) (dCb gRepr (dCons (dIf (dB (dOp gNe (dV 10) (dLst dNil))) (dOp gIx (dV 10) (dC (.int 0))) (dC .none)) dNil)))) (dRet (dC (.bool false))) dSkip)
    (dSet 7 (dOp gAdd (dV 7) (dV 10)))))
theorem sh_list {xs : List PyData} (h : ∀ x ∈ xs, keyD x = true ∧ x.depth ≤ 10) : SeqAt.shaped (.list xs) = true := by
  have k : PyData.canLayAll0 xs = true := keyDs_lay xs (keyDs_iff.mpr fun x hx => (h x hx).1)
  unfold SeqAt.shaped
  rw [Bool.and_eq_true]
  refine ⟨k, decide_eq_true ?_⟩
  simp only [PyData.depth]
  have : PyData.depthAll xs ≤ 10 := depths_iff.mpr fun x hx => (h x hx).2
  omega
theorem ne_eoL (o : Option Lt) : gNe (.list (eoL o)) (.list []) = some (.bool o.isSome) := by
  have h0 : SeqAt.shaped (.list (eoL o)) = true := sh_list fun x hx => by
    cases o with
    | none => exact absurd hx List.not_mem_nil
    | some l =>
      rcases List.mem_singleton.mp hx with rfl
      exact ⟨key_eL l, Nat.le_trans (dep_eL l) (by decide)⟩
  show (if SeqAt.shaped (.list (eoL o)) = true ∧ SeqAt.shaped (.list []) = true then some (PyData.bool (!PyData.eqv (.list (eoL o)) (.list []))) else none) = _
  rw [if_pos ⟨h0, rfl⟩, eqv_nilL]
  cases o <;> rfl
theorem eo_rep {p : Pg} {o : Option Lt} {N W : Nat} (hp : POk N p) (h : ∀ r, o = some r → LOk p W r) (hW : W ≤ 1000) : gRepr [eo o] = some (.str (eo o).shown) := by
  cases o with
  | none => exact Vl.rep (n := 0) (D := 0) (N := 0) Vl.non (by decide) (by decide) (by decide)
  | some r => exact Vl.rep (N := 3 * W + 8) ((h r rfl).vl hp) (by decide) (by decide) (by omega)
section
variable {a b c d e g : Sl} {p : Pg} {l : Lt} {N W : Nat}
theorem pair_eq (hp : POk N p) (hl : LOk p W l) (hW : W ≤ 900) {q : Int × Int} (hq : q ∈ prs 0 p.ms) {x10 : Sl} {fs : List PyData} (hf : fs.length ≤ 1000) :
    bPair [a, b, c, .d (eP p), d, .d (eL l), e, .d (.list fs), .d (.int q.1), .d (.int q.2), x10] = Mo.pure (.nx [a, b, c, .d (eP p), d, .d (eL l), e, .d (.list (fs ++ eoL (bkAt p l q))), .d (.int q.1), .d (.int q.2), .d (.list (eoL (bkAt p l q)))]) := by
  obtain ⟨e1, e2, e3⟩ := pairs_back hp hl (by omega) hq
  have rp := eo_rep hp e3 (by omega)
  generalize eP p = P at *
  generalize eL l = L at *
  refine (then_nx (f := [a, b, c, .d P, d, .d L, e, .d (.list fs), .d (.int q.1), .d (.int q.2), .d (.list (eoL (bkAt p l q)))]) (by simp only [Mo.bind_assoc, Mo.pure_bind, Mo.of_some, Mo.bad_bind, Mo.raise_bind, Mo.nox_pure, Mo.nox_bind, Mo.nox_nox, Mo.nox_bad, initF, argSl, List.map_cons, List.map_nil, List.length_cons, List.length_nil, Nat.reduceSub, Nat.reduceAdd, List.replicate_succ, List.replicate_zero, List.cons_append, List.nil_append, List.append_nil, List.getElem?_cons_zero, List.getElem?_cons_succ, List.set_cons_zero, List.set_cons_succ, slD, slP, slO, dThen, dSkip, dSet, dPar, dRet, dIfS, dV, dC, dNil, dCons, dTup, dLst, dAnd, dOr, dNot, dIf, dAndT, dOrT, dNotT, dB, asB, dOp, dCb, dIsi, dCall, dACons, dANil, dAPen, dSl, dP, dNoP, asI, dAsg, gtN, gtT, gtNs, dSeq, asSeq, dIt, dYes, dRev, dNeg, gNeg, if_true, if_false, reduceIte, reduceCtorEq, few_ok, Nat.reduceLeDiff, Nat.zero_le, e2])).trans ((then_skip ?_).trans ?_)
  · have k : dIf (dB (dOp gNe (dV 10) (dLst dNil))) (dOp gIx (dV 10) (dC (.int 0))) (dC .none) [a, b, c, .d P, d, .d L, e, .d (.list fs), .d (.int q.1), .d (.int q.2), .d (.list (eoL (bkAt p l q)))] = Mo.pure (eo (bkAt p l q)) := by
      cases z : bkAt p l q with
      | none =>
        simp only [Mo.bind_assoc, Mo.pure_bind, Mo.of_some, Mo.bad_bind, Mo.raise_bind, Mo.nox_pure, Mo.nox_bind, Mo.nox_nox, Mo.nox_bad, initF, argSl, List.map_cons, List.map_nil, List.length_cons, List.length_nil, Nat.reduceSub, Nat.reduceAdd, List.replicate_succ, List.replicate_zero, List.cons_append, List.nil_append, List.append_nil, List.getElem?_cons_zero, List.getElem?_cons_succ, List.set_cons_zero, List.set_cons_succ, slD, slP, slO, dThen, dSkip, dSet, dPar, dRet, dIfS, dV, dC, dNil, dCons, dTup, dLst, dAnd, dOr, dNot, dIf, dAndT, dOrT, dNotT, dB, asB, dOp, dCb, dIsi, dCall, dACons, dANil, dAPen, dSl, dP, dNoP, asI, dAsg, gtN, gtT, gtNs, dSeq, asSeq, dIt, dYes, dRev, dNeg, gNeg, if_true, if_false, reduceIte, reduceCtorEq, few_ok, Nat.reduceLeDiff, Nat.zero_le, ne_eoL, Option.isSome_none]
        rfl
      | some r =>
        have : gIx (.list (eoL (some r))) (.int 0) = some (eL r) := rfl
        simp only [Mo.bind_assoc, Mo.pure_bind, Mo.of_some, Mo.bad_bind, Mo.raise_bind, Mo.nox_pure, Mo.nox_bind, Mo.nox_nox, Mo.nox_bad, initF, argSl, List.map_cons, List.map_nil, List.length_cons, List.length_nil, Nat.reduceSub, Nat.reduceAdd, List.replicate_succ, List.replicate_zero, List.cons_append, List.nil_append, List.append_nil, List.getElem?_cons_zero, List.getElem?_cons_succ, List.set_cons_zero, List.set_cons_succ, slD, slP, slO, dThen, dSkip, dSet, dPar, dRet, dIfS, dV, dC, dNil, dCons, dTup, dLst, dAnd, dOr, dNot, dIf, dAndT, dOrT, dNotT, dB, asB, dOp, dCb, dIsi, dCall, dACons, dANil, dAPen, dSl, dP, dNoP, asI, dAsg, gtN, gtT, gtNs, dSeq, asSeq, dIt, dYes, dRev, dNeg, gNeg, if_true, if_false, reduceIte, reduceCtorEq, few_ok, Nat.reduceLeDiff, Nat.zero_le, ne_eoL, Option.isSome_some, this]
        rfl
    have k1 : dCb gRepr (dCons (dIf (dB (dOp gNe (dV 10) (dLst dNil))) (dOp gIx (dV 10) (dC (.int 0))) (dC .none)) dNil) [a, b, c, .d P, d, .d L, e, .d (.list fs), .d (.int q.1), .d (.int q.2), .d (.list (eoL (bkAt p l q)))] = Mo.pure (.str (eo (bkAt p l q)).shown) := by
      unfold dCb dCons
      rw [k]
      show Mo.of (gRepr _) = _
      rw [rp]
      rfl
    have k2 : dCb gRepr (dCons (dCall 4 f_back (dACons (dV 3) (dACons (dV 5) (dACons (dV 8) (dACons (dV 9) dANil))))) dNil) [a, b, c, .d P, d, .d L, e, .d (.list fs), .d (.int q.1), .d (.int q.2), .d (.list (eoL (bkAt p l q)))] = Mo.pure (.str (eo (bkAt p l q)).shown) := by
      simp only [Mo.bind_assoc, Mo.pure_bind, Mo.of_some, Mo.bad_bind, Mo.raise_bind, Mo.nox_pure, Mo.nox_bind, Mo.nox_nox, Mo.nox_bad, initF, argSl, List.map_cons, List.map_nil, List.length_cons, List.length_nil, Nat.reduceSub, Nat.reduceAdd, List.replicate_succ, List.replicate_zero, List.cons_append, List.nil_append, List.append_nil, List.getElem?_cons_zero, List.getElem?_cons_succ, List.set_cons_zero, List.set_cons_succ, slD, slP, slO, dThen, dSkip, dSet, dPar, dRet, dIfS, dV, dC, dNil, dCons, dTup, dLst, dAnd, dOr, dNot, dIf, dAndT, dOrT, dNotT, dB, asB, dOp, dCb, dIsi, dCall, dACons, dANil, dAPen, dSl, dP, dNoP, asI, dAsg, gtN, gtT, gtNs, dSeq, asSeq, dIt, dYes, dRev, dNeg, gNeg, if_true, if_false, reduceIte, reduceCtorEq, few_ok, Nat.reduceLeDiff, Nat.zero_le, e1, rp]
    exact t_op k2 k1 (ne_rep rp rfl)
  · have : gAdd (.list fs) (.list (eoL (bkAt p l q))) = some (.list (fs ++ eoL (bkAt p l q))) := if_pos (by
      have : (eoL (bkAt p l q)).length ≤ 1 := by cases bkAt p l q <;> simp [eoL]
      omega)
    simp only [Mo.bind_assoc, Mo.pure_bind, Mo.of_some, Mo.bad_bind, Mo.raise_bind, Mo.nox_pure, Mo.nox_bind, Mo.nox_nox, Mo.nox_bad, initF, argSl, List.map_cons, List.map_nil, List.length_cons, List.length_nil, Nat.reduceSub, Nat.reduceAdd, List.replicate_succ, List.replicate_zero, List.cons_append, List.nil_append, List.append_nil, List.getElem?_cons_zero, List.getElem?_cons_succ, List.set_cons_zero, List.set_cons_succ, slD, slP, slO, dThen, dSkip, dSet, dPar, dRet, dIfS, dV, dC, dNil, dCons, dTup, dLst, dAnd, dOr, dNot, dIf, dAndT, dOrT, dNotT, dB, asB, dOp, dCb, dIsi, dCall, dACons, dANil, dAPen, dSl, dP, dNoP, asI, dAsg, gtN, gtT, gtNs, dSeq, asSeq, dIt, dYes, dRev, dNeg, gNeg, if_true, if_false, reduceIte, reduceCtorEq, few_ok, Nat.reduceLeDiff, Nat.zero_le, this]
theorem pairs_go (hp : POk N p) (hl : LOk p W l) (hW : W ≤ 900) : ∀ (qs : List (Int × Int)) (fs : List PyData) (x8 x9 x10 : Sl), (∀ q ∈ qs, q ∈ prs 0 p.ms) → fs.length + qs.length ≤ 1000 →
    ∃ y8 y9 y10, forGo (gtT [8, 9]) bPair (qs.map ePr) [a, b, c, .d (eP p), d, .d (eL l), e, .d (.list fs), x8, x9, x10] = Mo.pure (.nx [a, b, c, .d (eP p), d, .d (eL l), e, .d (.list (fs ++ (qs.filterMap (bkAt p l)).map eL)), y8, y9, y10])
  | [], fs, x8, x9, x10, _, _ => ⟨x8, x9, x10, by simp; rfl⟩
  | q :: qs, fs, x8, x9, x10, hq, hf => by
    rw [List.length_cons] at hf
    have k := pair_eq (a := a) (b := b) (c := c) (d := d) (e := e) (x10 := x10) hp hl hW (hq q List.mem_cons_self) (fs := fs) (by omega)
    have l1 : (eoL (bkAt p l q)).length ≤ 1 := by cases bkAt p l q <;> simp [eoL]
    obtain ⟨y8, y9, y10, r⟩ := pairs_go hp hl hW qs (fs ++ eoL (bkAt p l q)) (.d (.int q.1)) (.d (.int q.2)) (.d (.list (eoL (bkAt p l q)))) (fun q' h => hq q' (List.mem_cons_of_mem _ h)) (by rw [List.length_append]; omega)
    refine ⟨y8, y9, y10, (for_nx rfl k).trans (r.trans ?_)⟩
    cases z : bkAt p l q with
    | none => simp [eoL, z]
    | some r => simp [eoL, z]
end
def bTurn : DS := (dThen (dSet 5 (dCall 3 f_law_drawn_lot (dAPen 1 (dACons (dV 3) (dACons (dCall 2 f_law_one_of (dAPen 1 (dACons (dLst (dCons (dC (.int 0)) (dCons (dC (.int 1)) (dCons (dC (.int 2)) (dCons (dC (.int 4)) dNil))))) dANil))) dANil)))))
    (dThen (dPar 6 7 (dCons (dCb gRepr (dCons (dTup (dCons (dV 3) (dCons (dV 5) dNil))) dNil)) (dCons (dLst dNil) dNil)))
    (dThen (dFor (dSeq (dCall 1 f_law_all_pairs (dACons (dV 3) dANil))) (gtT [8, 9]) bPair)
    (dIfS (dOrT (dB (dOp gNe (dCb gRepr (dCons (dCall 2 f_all_back (dACons (dV 3) (dACons (dV 5) dANil))) dNil)) (dCb gRepr (dCons (dCb gTupOf (dCons (dSortSet (dV 7)) dNil)) dNil)))) (dB (dOp gNe (dCb gRepr (dCons (dTup (dCons (dV 3) (dCons (dV 5) dNil))) dNil)) (dV 6)))) (dRet (dC (.bool false))) dSkip))))
theorem sorted_rep {p : Pg} {ls : List Lt} {N W : Nat} (hp : POk N p) (h : ∀ l ∈ ls, LOk p W l) (hW : W ≤ 900) (hl : ls.length ≤ 60) : gRepr [.tuple (sortU (ls.map eL))] = some (.str (PyData.tuple (sortU (ls.map eL))).shown) := by
  have sb := sort_sub (ls.map eL)
  refine Vl.rep (n := 0) (D := 4) (N := 60 * (3 * W + 9)) ?_ (by decide) (by decide) (by omega)
  refine (Vls.all (M := 60) (fun x hx => ?_) ?_).tup
  · obtain ⟨l, hl', rfl⟩ := List.mem_map.mp (sb.1 x hx)
    exact (h l hl').vl hp
  · have := sb.2
    rw [List.length_map] at this
    omega
theorem turn_ok (ns : List Int) {p : Pg} (hp : POk 8 p) {a c d : Sl} {x5 x6 x7 x8 x9 x10 : Sl} : Y (bTurn [a, .pen ns, c, .d (eP p), d, x5, x6, x7, x8, x9, x10]) fun o => ∃ y5 y6 y7 y8 y9 y10, o = .nx [a, .pen ns, c, .d (eP p), d, y5, y6, y7, y8, y9, y10] := by
  refine Y.then (φ := fun f => ∃ l, LOk p 4 l ∧ f = [a, .pen ns, c, .d (eP p), d, .d (eL l), x6, x7, x8, x9, x10]) ?_ fun f hf => ?_
  · simp only [Mo.bind_assoc, Mo.pure_bind, Mo.of_some, Mo.bad_bind, Mo.raise_bind, Mo.nox_pure, Mo.nox_bind, Mo.nox_nox, Mo.nox_bad, initF, argSl, List.map_cons, List.map_nil, List.length_cons, List.length_nil, Nat.reduceSub, Nat.reduceAdd, List.replicate_succ, List.replicate_zero, List.cons_append, List.nil_append, List.append_nil, List.getElem?_cons_zero, List.getElem?_cons_succ, List.set_cons_zero, List.set_cons_succ, slD, slP, slO, dThen, dSkip, dSet, dPar, dRet, dIfS, dV, dC, dNil, dCons, dTup, dLst, dAnd, dOr, dNot, dIf, dAndT, dOrT, dNotT, dB, asB, dOp, dCb, dIsi, dCall, dACons, dANil, dAPen, dSl, dP, dNoP, asI, dAsg, gtN, gtT, gtNs, dSeq, asSeq, dIt, dYes, dRev, dNeg, gNeg, if_true, if_false, reduceIte, reduceCtorEq, few_ok, Nat.reduceLeDiff, Nat.zero_le]
    refine Y.bind (small_ok ns (lo := 0) (hi := 4) (by decide) (by decide) fun x hx => ?_) fun x hx => ?_
    · simp only [List.mem_cons, List.not_mem_nil, or_false] at hx
      rcases hx with rfl | rfl | rfl | rfl <;> exact ⟨_, rfl, by decide, by decide⟩
    · obtain ⟨i, rfl, i0, i1⟩ := hx
      have e : i = ((i.toNat : Nat) : Int) := by omega
      rw [e]
      try simp only [Mo.bind_assoc, Mo.pure_bind, Mo.of_some, Mo.bad_bind, Mo.raise_bind, Mo.nox_pure, Mo.nox_bind, Mo.nox_nox, Mo.nox_bad, initF, argSl, List.map_cons, List.map_nil, List.length_cons, List.length_nil, Nat.reduceSub, Nat.reduceAdd, List.replicate_succ, List.replicate_zero, List.cons_append, List.nil_append, List.append_nil, List.getElem?_cons_zero, List.getElem?_cons_succ, List.set_cons_zero, List.set_cons_succ, slD, slP, slO, dThen, dSkip, dSet, dPar, dRet, dIfS, dV, dC, dNil, dCons, dTup, dLst, dAnd, dOr, dNot, dIf, dAndT, dOrT, dNotT, dB, asB, dOp, dCb, dIsi, dCall, dACons, dANil, dAPen, dSl, dP, dNoP, asI, dAsg, gtN, gtT, gtNs, dSeq, asSeq, dIt, dYes, dRev, dNeg, gNeg, if_true, if_false, reduceIte, reduceCtorEq, few_ok, Nat.reduceLeDiff, Nat.zero_le]
      refine Y.bind (lot_ok ns hp (by omega)) fun d hd => ?_
      obtain ⟨l, rfl, hl⟩ := hd
      exact .pure ⟨_, rfl, l, hl.up (by omega), rfl⟩
  obtain ⟨l, hl, rfl⟩ := hf
  have rep : gRepr [.tuple [eP p, eL l]] = some (.str (PyData.tuple [eP p, eL l]).shown) :=
    Vl.rep (vl_pair (hp.vl) ((hl.vl hp).up (Nat.le_refl _) (by decide) (Nat.le_refl _))) (by decide) (by decide) (by decide)
  refine Y.then (φ := fun f => f = [a, .pen ns, c, .d (eP p), d, .d (eL l), .d (.str (PyData.tuple [eP p, eL l]).shown), .d (.list []), x8, x9, x10]) ?_ fun f hf => ?_
  · exact .eq (x := .nx _) (by simp only [Mo.bind_assoc, Mo.pure_bind, Mo.of_some, Mo.bad_bind, Mo.raise_bind, Mo.nox_pure, Mo.nox_bind, Mo.nox_nox, Mo.nox_bad, initF, argSl, List.map_cons, List.map_nil, List.length_cons, List.length_nil, Nat.reduceSub, Nat.reduceAdd, List.replicate_succ, List.replicate_zero, List.cons_append, List.nil_append, List.append_nil, List.getElem?_cons_zero, List.getElem?_cons_succ, List.set_cons_zero, List.set_cons_succ, slD, slP, slO, dThen, dSkip, dSet, dPar, dRet, dIfS, dV, dC, dNil, dCons, dTup, dLst, dAnd, dOr, dNot, dIf, dAndT, dOrT, dNotT, dB, asB, dOp, dCb, dIsi, dCall, dACons, dANil, dAPen, dSl, dP, dNoP, asI, dAsg, gtN, gtT, gtNs, dSeq, asSeq, dIt, dYes, dRev, dNeg, gNeg, if_true, if_false, reduceIte, reduceCtorEq, few_ok, Nat.reduceLeDiff, Nat.zero_le, rep]) ⟨_, rfl, rfl⟩
  subst hf
  have ap := all_pairs_eq hp (by decide)
  have lp := hp.prs_len
  obtain ⟨y8, y9, y10, r⟩ := pairs_go (a := a) (b := .pen ns) (c := c) (d := d) (e := .d (.str (PyData.tuple [eP p, eL l]).shown)) hp hl (by decide) (prs 0 p.ms) [] x8 x9 x10 (fun q h => h) (by simp only [List.length_nil]; omega)
  rw [List.nil_append] at r
  refine .eq (x := .nx [a, .pen ns, c, .d (eP p), d, .d (eL l), .d (.str (PyData.tuple [eP p, eL l]).shown), .d (.list ((bks p l).map eL)), y8, y9, y10]) ?_ ⟨_, _, _, _, _, _, rfl⟩
  refine (then_nx (f := [a, .pen ns, c, .d (eP p), d, .d (eL l), .d (.str (PyData.tuple [eP p, eL l]).shown), .d (.list ((bks p l).map eL)), y8, y9, y10]) ?_).trans ((ifs_f ?_).trans rfl)
  · unfold dFor
    rw [show dSeq (dCall 1 f_law_all_pairs (dACons (dV 3) dANil)) _ = Mo.pure ((prs 0 p.ms).map ePr) from by simp only [Mo.bind_assoc, Mo.pure_bind, Mo.of_some, Mo.bad_bind, Mo.raise_bind, Mo.nox_pure, Mo.nox_bind, Mo.nox_nox, Mo.nox_bad, initF, argSl, List.map_cons, List.map_nil, List.length_cons, List.length_nil, Nat.reduceSub, Nat.reduceAdd, List.replicate_succ, List.replicate_zero, List.cons_append, List.nil_append, List.append_nil, List.getElem?_cons_zero, List.getElem?_cons_succ, List.set_cons_zero, List.set_cons_succ, slD, slP, slO, dThen, dSkip, dSet, dPar, dRet, dIfS, dV, dC, dNil, dCons, dTup, dLst, dAnd, dOr, dNot, dIf, dAndT, dOrT, dNotT, dB, asB, dOp, dCb, dIsi, dCall, dACons, dANil, dAPen, dSl, dP, dNoP, asI, dAsg, gtN, gtT, gtNs, dSeq, asSeq, dIt, dYes, dRev, dNeg, gNeg, if_true, if_false, reduceIte, reduceCtorEq, few_ok, Nat.reduceLeDiff, Nat.zero_le, ap], Mo.pure_bind]
    exact r
  · have e1 := all_back_eq hp (by decide) hl (by decide)
    have lb := bks_len (l := l) hp
    have fit := fit_L (ls := bks p l) (by omega)
    have rp := sorted_rep (ls := bks p l) (W := 5) hp (fun r hr => by
      obtain ⟨q, hq, e⟩ := List.mem_filterMap.mp hr
      exact (pairs_back hp hl (by decide) hq).2.2 r e) (by decide) (by omega)
    refine (or_f ?_).trans ?_
    · simp only [Mo.bind_assoc, Mo.pure_bind, Mo.of_some, Mo.bad_bind, Mo.raise_bind, Mo.nox_pure, Mo.nox_bind, Mo.nox_nox, Mo.nox_bad, initF, argSl, List.map_cons, List.map_nil, List.length_cons, List.length_nil, Nat.reduceSub, Nat.reduceAdd, List.replicate_succ, List.replicate_zero, List.cons_append, List.nil_append, List.append_nil, List.getElem?_cons_zero, List.getElem?_cons_succ, List.set_cons_zero, List.set_cons_succ, slD, slP, slO, dThen, dSkip, dSet, dPar, dRet, dIfS, dV, dC, dNil, dCons, dTup, dLst, dAnd, dOr, dNot, dIf, dAndT, dOrT, dNotT, dB, asB, dOp, dCb, dIsi, dCall, dACons, dANil, dAPen, dSl, dP, dNoP, asI, dAsg, gtN, gtT, gtNs, dSeq, asSeq, dIt, dYes, dRev, dNeg, gNeg, if_true, if_false, reduceIte, reduceCtorEq, few_ok, Nat.reduceLeDiff, Nat.zero_le, e1, rp, dSortSet, gSortSet, fit, gTupOf, ne_rep rp rfl]
    · simp only [Mo.bind_assoc, Mo.pure_bind, Mo.of_some, Mo.bad_bind, Mo.raise_bind, Mo.nox_pure, Mo.nox_bind, Mo.nox_nox, Mo.nox_bad, initF, argSl, List.map_cons, List.map_nil, List.length_cons, List.length_nil, Nat.reduceSub, Nat.reduceAdd, List.replicate_succ, List.replicate_zero, List.cons_append, List.nil_append, List.append_nil, List.getElem?_cons_zero, List.getElem?_cons_succ, List.set_cons_zero, List.set_cons_succ, slD, slP, slO, dThen, dSkip, dSet, dPar, dRet, dIfS, dV, dC, dNil, dCons, dTup, dLst, dAnd, dOr, dNot, dIf, dAndT, dOrT, dNotT, dB, asB, dOp, dCb, dIsi, dCall, dACons, dANil, dAPen, dSl, dP, dNoP, asI, dAsg, gtN, gtT, gtNs, dSeq, asSeq, dIt, dYes, dRev, dNeg, gNeg, if_true, if_false, reduceIte, reduceCtorEq, few_ok, Nat.reduceLeDiff, Nat.zero_le, rep, ne_rep rep rfl]
theorem Y.forI {g : Gt} {b : DS} {I : Fm → Prop} {xs : List PyData} {fm : Fm} {ψ : Out → Prop} (h : I fm) (st : ∀ x ∈ xs, ∀ f, I f → ∃ f1, g x f = some f1 ∧ Y (b f1) fun o => ∃ f2, o = .nx f2 ∧ I f2) (k : ∀ f, I f → ψ (.nx f)) : Y (forGo g b xs fm) ψ :=
  Y.for (I := fun _ f => I f) xs 0 fm h (fun i x f hx hf => by
    obtain ⟨f1, e, y⟩ := st x (List.mem_of_getElem? hx) f hf
    exact ⟨f1, e, y.imp fun o ho => by
      obtain ⟨f2, e2, h2⟩ := ho
      exact ⟨f2, .inl e2, h2⟩⟩) fun f hf => k f hf
end K10
end Rf
namespace K10
open Rf Rf.K10
open PySem PySem.Spec PyProof.Rows L2 Gd Dt Dl Ee Sd
theorem holds : ∀ ns : List Int, ns.length ≤ 63 → ∃ s', b_law (lawF 11 ns) (0, 0) = .ok (.rt (.bool true)) s' := fun ns _ => by
  have k : Y (b_law (lawF 11 ns)) fun o => o = .rt (.bool true) := by
    unfold b_law
    refine Y.then (φ := fun f => True) ?_ fun f _ => .pure rfl
    refine Y.bind (φ := (· = upto 0 6)) (.eq (x := upto 0 6) rfl rfl) fun xs e => ?_
    subst e
    refine Y.forI (I := fun f => ∃ x2 x3 x4 x5 x6 x7 x8 x9 x10, f = [.d (.list (ns.map .int)), .pen ns, x2, x3, x4, x5, x6, x7, x8, x9, x10]) ⟨_, _, _, _, _, _, _, _, _, rfl⟩ (fun x hx f hf => ?_) fun f _ => ⟨f, rfl, trivial⟩
    obtain ⟨x2, x3, x4, x5, x6, x7, x8, x9, x10, rfl⟩ := hf
    refine ⟨_, rfl, ?_⟩
    refine Y.then (φ := fun f => ∃ p, POk 8 p ∧ f = [.d (.list (ns.map .int)), .pen ns, .d x, .d (eP p), x4, x5, x6, x7, x8, x9, x10]) ?_ fun f hf => ?_
    · simp only [Mo.bind_assoc, Mo.pure_bind, Mo.of_some, Mo.bad_bind, Mo.raise_bind, Mo.nox_pure, Mo.nox_bind, Mo.nox_nox, Mo.nox_bad, initF, argSl, List.map_cons, List.map_nil, List.length_cons, List.length_nil, Nat.reduceSub, Nat.reduceAdd, List.replicate_succ, List.replicate_zero, List.cons_append, List.nil_append, List.append_nil, List.getElem?_cons_zero, List.getElem?_cons_succ, List.set_cons_zero, List.set_cons_succ, slD, slP, slO, dThen, dSkip, dSet, dPar, dRet, dIfS, dV, dC, dNil, dCons, dTup, dLst, dAnd, dOr, dNot, dIf, dAndT, dOrT, dNotT, dB, asB, dOp, dCb, dIsi, dCall, dACons, dANil, dAPen, dSl, dP, dNoP, asI, dAsg, gtN, gtT, gtNs, dSeq, asSeq, dIt, dYes, dRev, dNeg, gNeg, if_true, if_false, reduceIte, reduceCtorEq, few_ok, Nat.reduceLeDiff, Nat.zero_le]
      refine Y.bind (wide_ok ns (mo := 6) (by decide)) fun d hd => ?_
      obtain ⟨p, rfl, hp⟩ := hd
      exact .pure ⟨_, rfl, p, hp, rfl⟩
    obtain ⟨p, hp, rfl⟩ := hf
    refine Y.bind (φ := (· = upto 0 4)) (.eq (x := upto 0 4) rfl rfl) fun xs e => ?_
    subst e
    refine Y.forI (I := fun f => ∃ x4 x5 x6 x7 x8 x9 x10, f = [.d (.list (ns.map .int)), .pen ns, .d x, .d (eP p), x4, x5, x6, x7, x8, x9, x10]) ⟨_, _, _, _, _, _, _, rfl⟩ (fun y hy f hf => ?_) fun f hf => ?_
    · obtain ⟨x4, x5, x6, x7, x8, x9, x10, rfl⟩ := hf
      refine ⟨_, rfl, (turn_ok ns hp).imp fun o ho => ?_⟩
      obtain ⟨y5, y6, y7, y8, y9, y10, rfl⟩ := ho
      exact ⟨_, rfl, _, _, _, _, _, _, _, rfl⟩
    · obtain ⟨x4, x5, x6, x7, x8, x9, x10, rfl⟩ := hf
      exact ⟨_, rfl, _, _, _, _, _, _, _, _, _, rfl⟩
  obtain ⟨o, s', e, h⟩ := k (0, 0)
  exact ⟨s', by rw [e, h]⟩
end K10

set_option maxRecDepth 100000
set_option maxHeartbeats 4000000
namespace K10
open PySem PySem.Spec PyProof.Rows L2 Gd Dt Dl Ee Sd
open Rf
def top (i : Nat) : Stmt := PySem.Challenge.pw_losinglanes_k10_steps_back.main.body.getD i (.Pass ⟨0, 0, 0, 0⟩)
section
variable {P : Program} {w : World} {K : PySem.W.Frag} {mg : Str → Option Value} {base : Heap}
theorem sc_law_pen : FnScope ["script"] ["script"] (defScope (top 10)) := ⟨rfl, rfl, rfl, by decide +kernel, rfl, by decide +kernel, by decide +kernel⟩
theorem h_law_pen {f : Addr} {fd : FuncData} (F : L2.Fun K "_law_pen" "_law_pen" (top 10) f fd) (m : mg "_law_pen" = some (.ref f)) (B : Blts mg) : Dl.Cal P w K mg base "_law_pen" 1 ["script"] (Rf.spPen K) := by
  refine ⟨f, fd, F.ok sc_law_pen (fun vs H Q E h => ?_) (fun cdv A outer s H vs Q E hr h => ?_), m, F.kp, F.binds (ps := ["script"]) fun _ _ _ _ _ _ us hl => match us, hl with | [_], _ => rfl⟩
  · obtain ⟨a, ns, rfl, _⟩ := h
    rfl
  have nd := sc_law_pen.nd
  exact ⟨_, (pss_one (ps_ret (pe_lst (pa_cons (pe_callTy call_list_of (by rfl) B.list (by decide +kernel) (pa_cons (pe_slice sl_list (pv 0) po_none (po_some pe_int)) pa_nil)) (pa_cons pe_int (pa_cons pe_int pa_nil)))))), pen_pure h⟩
end
end K10

set_option maxRecDepth 100000
set_option maxHeartbeats 4000000
namespace K10
open PySem PySem.Spec PyProof.Rows L2 Gd Dt Dl Ee Sd
open Rf
section
variable {P : Program} {w : World} {K : PySem.W.Frag} {mg : Str → Option Value} {base : Heap}
theorem sc_step_at : FnScope ["program", "machine", "index", "_", "machines", "steps"] ["program", "machine", "index"] (defScope (top 1)) := ⟨rfl, rfl, rfl, by decide +kernel, rfl, by decide +kernel, by decide +kernel⟩
theorem h_step_at {f : Addr} {fd : FuncData} (F : L2.Fun K "step_at" "step_at" (top 1) f fd) (m : mg "step_at" = some (.ref f)) (B : Blts mg) (sy : Sy base) : Fc P w K mg base "step_at" 1 3 f_step_at :=
  fc_mk (k := 0) (N := ["program", "machine", "index", "_", "machines", "steps"]) (ps := ["program", "machine", "index"]) F m sc_step_at (F.binds (ps := ["program", "machine", "index"]) fun _ _ _ _ _ _ us hl => match us, hl with | [_, _, _], _ => rfl) fun cdv A outer s H E hfree hr hp => by
    have nd := sc_step_at.nd
    exact (ss_cons (s_asg (gt := gTup K 3 (gNames [3, 3, 4])) (r_v 0) (pg_tup rfl (pgs_cons (pg_name (i := 3) nd rfl (Or.inl rfl)) (pgs_cons (pg_name (i := 3) nd rfl (Or.inl rfl)) (pgs_cons (pg_name (i := 4) nd rfl (Or.inl rfl)) pgs_nil)))) (tg_t [3, 3, 4]))
    (ss_cons (s_asg (gt := gTup K 2 (gNames [3, 5])) (r_ix (r_v 4) (r_v 1)) (pg_tup rfl (pgs_cons (pg_name (i := 3) nd rfl (Or.inl rfl)) (pgs_cons (pg_name (i := 5) nd rfl (Or.inl rfl)) pgs_nil))) (tg_t [3, 5]))
    (ss_one (s_ret (r_ix (r_v 5) (r_v 2))))))
theorem sc_all_steps : FnScope ["program", "_", "machines", "at", "machine", "index"] ["program"] (defScope (top 2)) := ⟨rfl, rfl, rfl, by decide +kernel, rfl, by decide +kernel, by decide +kernel⟩
theorem h_all_steps {f : Addr} {fd : FuncData} (F : L2.Fun K "all_steps" "all_steps" (top 2) f fd) (m : mg "all_steps" = some (.ref f)) (B : Blts mg) (sy : Sy base) : Fc P w K mg base "all_steps" 1 1 f_all_steps :=
  fc_mk (k := 0) (N := ["program", "_", "machines", "at", "machine", "index"]) (ps := ["program"]) F m sc_all_steps (F.binds (ps := ["program"]) fun _ _ _ _ _ _ us hl => match us, hl with | [_], _ => rfl) fun cdv A outer s H E hfree hr hp => by
    have nd := sc_all_steps.nd
    exact (ss_cons (s_asg (gt := gTup K 3 (gNames [1, 1, 2])) (r_v 0) (pg_tup rfl (pgs_cons (pg_name (i := 1) nd rfl (Or.inl rfl)) (pgs_cons (pg_name (i := 1) nd rfl (Or.inl rfl)) (pgs_cons (pg_name (i := 2) nd rfl (Or.inl rfl)) pgs_nil)))) (tg_t [1, 1, 2]))
    (ss_one (s_ret (r_lc2 (own := [("at", 3), ("machine", 4), ("index", 5)]) (vs1 := [5]) (gt := gTup K 2 (gNames [3, 4])) (gt1 := gName 5) rfl nd (i_enumT (by rfl) B.enumerate (rl_cons (r_v 2) rl_nil)) (blkOk_by (N := ["program", "_", "machines", "at", "machine", "index"]) (sc := defScope (top 2)) (by decide +kernel)) (by decide) (fun _ _ _ _ _ => pg_tup rfl (pgs_cons (pg_name (i := 3) nd rfl (Or.inl rfl)) (pgs_cons (pg_name (i := 4) nd rfl (Or.inl rfl)) pgs_nil))) (tg_t [3, 4]) (by decide) (fun _ _ _ _ _ => rc_nil) (fun _ _ _ _ _ => (i_range1 (by rfl) B.range (rl_cons (r_cb cs_len (by rfl) B.len (by decide +kernel) (rl_cons (r_ix (r_v 4) r_int) rl_nil)) rl_nil))) (fun _ _ _ _ _ => pg_name (i := 5) nd rfl (Or.inl rfl)) (tg_n 5) (by decide) (fun _ _ _ _ _ => rc_nil) (fun _ _ _ _ _ => (r_tup (rl_cons (r_v 3) (rl_cons (r_v 5) rl_nil))))))))
theorem sc_exchanged : FnScope ["row", "at", "part"] ["row", "at", "part"] (defScope (top 3)) := ⟨rfl, rfl, rfl, by decide +kernel, rfl, by decide +kernel, by decide +kernel⟩
theorem h_exchanged {f : Addr} {fd : FuncData} (F : L2.Fun K "exchanged" "exchanged" (top 3) f fd) (m : mg "exchanged" = some (.ref f)) (B : Blts mg) (sy : Sy base) : Fc P w K mg base "exchanged" 1 3 f_exchanged :=
  fc_mk (k := 0) (N := ["row", "at", "part"]) (ps := ["row", "at", "part"]) F m sc_exchanged (F.binds (ps := ["row", "at", "part"]) fun _ _ _ _ _ _ us hl => match us, hl with | [_, _, _], _ => rfl) fun cdv A outer s H E hfree hr hp => by
    have nd := sc_exchanged.nd
    exact (ss_one (s_ret (r_bin os_add (r_bin os_add (r_sl (r_v 0) ro_none (ro_some (r_v 1))) (r_tup (rl_cons (r_v 2) rl_nil))) (r_sl (r_v 0) (ro_some (r_bin os_add (r_v 1) r_int)) ro_none))))
theorem sc_can_end : FnScope ["words", "action"] ["words", "action"] (defScope (top 5)) := ⟨rfl, rfl, rfl, by decide +kernel, rfl, by decide +kernel, by decide +kernel⟩
theorem h_can_end {f : Addr} {fd : FuncData} (F : L2.Fun K "can_end" "can_end" (top 5) f fd) (m : mg "can_end" = some (.ref f)) (B : Blts mg) (sy : Sy base) : Fc P w K mg base "can_end" 1 2 f_can_end :=
  fc_mk (k := 0) (N := ["words", "action"]) (ps := ["words", "action"]) F m sc_can_end (F.binds (ps := ["words", "action"]) fun _ _ _ _ _ _ us hl => match us, hl with | [_, _], _ => rfl) fun cdv A outer s H E hfree hr hp => by
    have nd := sc_can_end.nd
    exact (ss_one (s_ret (r_or (r_cmp (os_ne hr.units) (r_ix (r_v 1) r_int) r_str (nomark _)) (r_one (r_cmp (os_eq hr.units) (r_ix (r_v 0) (r_ix (r_v 1) r_int)) (r_tup rl_nil) (nomark _))))))
theorem sc_law_fresh : FnScope ["pen", "seat", "given", "cell", "prime", "state", "found", "lap"] ["pen"] (defScope (top 11)) := ⟨rfl, rfl, rfl, by decide +kernel, rfl, by decide +kernel, by decide +kernel⟩
theorem h_law_fresh {f : Addr} {fd : FuncData} (F : L2.Fun K "_law_fresh" "_law_fresh" (top 11) f fd) (m : mg "_law_fresh" = some (.ref f)) (B : Blts mg) (sy : Sy base) : Fc P w K mg base "_law_fresh" 1 1 f_law_fresh :=
  fc_mk (k := 0) (N := ["pen", "seat", "given", "cell", "prime", "state", "found", "lap"]) (ps := ["pen"]) F m sc_law_fresh (F.binds (ps := ["pen"]) fun _ _ _ _ _ _ us hl => match us, hl with | [_], _ => rfl) fun cdv A outer s H E hfree hr hp => by
    have nd := sc_law_fresh.nd
    exact (ss_cons (s_par (i := 1) (j := 2) rfl nd rfl rfl (by decide) rfl rfl (rl_cons (r_penIx 0) (rl_cons (r_penIx 0) rl_nil)) (by rfl))
    (ss_cons (s_penSet 0 (r_bin os_add (r_v 1) r_int))
    (ss_cons (s_set (i := 3) nd rfl (Or.inl rfl) (r_if (t_cmp (os_ne hr.units) (r_v 2) (r_lst rl_nil) (nomark _)) (r_ix (r_v 2) (r_bin os_mod (r_ct cs_int (by rfl) B.int (by decide +kernel) (rl_cons (r_v 1) rl_nil)) (r_cb cs_len (by rfl) B.len (by decide +kernel) (rl_cons (r_v 2) rl_nil)))) r_int))
    (ss_cons (s_if (t_w (w_and (t_cmp (os_lt hr.units) (r_v 1) (r_cb cs_len (by rfl) B.len (by decide +kernel) (rl_cons (r_v 2) rl_nil)) (nomark _)) (w_and1 (t_cmp os_ge (r_v 3) (r_bin os_pow r_int r_int) (nomark _))))) (ss_one (s_ret (r_bin os_sub (r_v 3) (r_bin os_pow r_int r_int)))) ss_nil)
    (ss_cons (s_set (i := 4) nd rfl (Or.inl rfl) r_int)
    (ss_cons (s_set (i := 5) nd rfl (Or.inl rfl) (r_bin os_mod (r_ct cs_int (by rfl) B.int (by decide +kernel) (rl_cons (r_bin os_add (r_bin os_add (r_bin os_mul (r_v 3) r_int) (r_bin os_mul r_int (r_v 1))) r_int) rl_nil)) (r_v 4)))
    (ss_cons (s_set (i := 6) nd rfl (Or.inl rfl) (r_v 5))
    (ss_cons (s_for (gt := gName 7) hp rfl (i_range1 (by rfl) B.range (rl_cons r_int rl_nil)) (pg_name (i := 7) nd rfl (Or.inl rfl)) (tg_n 7) (ss_cons (s_set (i := 5) nd rfl (Or.inl rfl) (r_bin os_mod (r_ct cs_int (by rfl) B.int (by decide +kernel) (rl_cons (r_bin os_add (r_bin os_add (r_bin os_mul (r_v 5) (r_v 5)) (r_bin os_mul (r_bin os_mul r_int (r_bin os_add (r_v 7) r_int)) (r_bin os_add (r_v 1) r_int))) (r_v 3)) rl_nil)) (r_v 4)))
    (ss_one (s_set (i := 6) nd rfl (Or.inl rfl) (r_bin os_add (r_bin os_mul (r_v 6) (r_v 4)) (r_v 5))))))
    (ss_one (s_ret (r_v 6)))))))))))
end
end K10

set_option maxRecDepth 100000
set_option maxHeartbeats 4000000
namespace K10
open PySem PySem.Spec PyProof.Rows L2 Gd Dt Dl Ee Sd
open Rf
section
variable {P : Program} {w : World} {K : PySem.W.Frag} {mg : Str → Option Value} {base : Heap}
theorem sc_law_at : FnScope ["rows", "place", "thing"] ["rows", "place", "thing"] (defScope (top 14)) := ⟨rfl, rfl, rfl, by decide +kernel, rfl, by decide +kernel, by decide +kernel⟩
theorem h_law_at {f : Addr} {fd : FuncData} (F : L2.Fun K "_law_at" "_law_at" (top 14) f fd) (m : mg "_law_at" = some (.ref f)) (B : Blts mg) (sy : Sy base) : Fc P w K mg base "_law_at" 1 3 f_law_at :=
  fc_mk (k := 0) (N := ["rows", "place", "thing"]) (ps := ["rows", "place", "thing"]) F m sc_law_at (F.binds (ps := ["rows", "place", "thing"]) fun _ _ _ _ _ _ us hl => match us, hl with | [_, _, _], _ => rfl) fun cdv A outer s H E hfree hr hp => by
    have nd := sc_law_at.nd
    exact (ss_one (s_ret (r_bin os_add (r_bin os_add (r_sl (r_v 0) ro_none (ro_some (r_v 1))) (r_tup (rl_cons (r_v 2) rl_nil))) (r_sl (r_v 0) (ro_some (r_bin os_add (r_v 1) r_int)) ro_none))))
theorem sc_law_all_pairs : FnScope ["program", "found", "machine", "index"] ["program"] (defScope (top 21)) := ⟨rfl, rfl, rfl, by decide +kernel, rfl, by decide +kernel, by decide +kernel⟩
theorem h_law_all_pairs {f : Addr} {fd : FuncData} (F : L2.Fun K "_law_all_pairs" "_law_all_pairs" (top 21) f fd) (m : mg "_law_all_pairs" = some (.ref f)) (B : Blts mg) (sy : Sy base) : Fc P w K mg base "_law_all_pairs" 1 1 f_law_all_pairs :=
  fc_mk (k := 0) (N := ["program", "found", "machine", "index"]) (ps := ["program"]) F m sc_law_all_pairs (F.binds (ps := ["program"]) fun _ _ _ _ _ _ us hl => match us, hl with | [_], _ => rfl) fun cdv A outer s H E hfree hr hp => by
    have nd := sc_law_all_pairs.nd
    exact (ss_cons (s_new nd rfl (Or.inl rfl))
    (ss_cons (s_for (gt := gName 2) hp rfl (i_range1 (by rfl) B.range (rl_cons (r_cb cs_len (by rfl) B.len (by decide +kernel) (rl_cons (r_ix (r_v 0) r_int) rl_nil)) rl_nil)) (pg_name (i := 2) nd rfl (Or.inr rfl)) (tg_n 2) (ss_one (s_ext 1 (rf_lc (own := [("index", 3)]) (gt := gName 3) rfl nd (i_range1 (by rfl) B.range (rl_cons (r_cb cs_len (by rfl) B.len (by decide +kernel) (rl_cons (r_ix (r_ix (r_ix (r_v 0) r_int) (r_v 2)) r_int) rl_nil)) rl_nil)) (blkOk_by (N := ["program", "found", "machine", "index"]) (sc := defScope (top 21)) (by decide +kernel)) (fun _ _ _ _ _ => pg_name (i := 3) nd rfl (Or.inl rfl)) (tg_n 3) (by decide) (fun _ _ _ _ _ => rc_nil) (fun _ _ _ _ _ => (r_tup (rl_cons (r_v 2) (rl_cons (r_v 3) rl_nil))))))))
    (ss_frz 1 (ss_one (s_ret (r_v 1))))))
theorem sc_words_before : FnScope ["words", "action", "_", "lane", "letter", "word"] ["words", "action"] (defScope (top 6)) := ⟨rfl, rfl, rfl, by decide +kernel, rfl, by decide +kernel, by decide +kernel⟩
theorem h_words_before {f : Addr} {fd : FuncData} (F : L2.Fun K "words_before" "words_before" (top 6) f fd) (m : mg "words_before" = some (.ref f)) (B : Blts mg) (sy : Sy base) (Cexchanged : Fc P w K mg base "exchanged" 1 3 f_exchanged) : Fc P w K mg base "words_before" 2 2 f_words_before :=
  fc_mk (k := 1) (N := ["words", "action", "_", "lane", "letter", "word"]) (ps := ["words", "action"]) F m sc_words_before (F.binds (ps := ["words", "action"]) fun _ _ _ _ _ _ us hl => match us, hl with | [_, _], _ => rfl) fun cdv A outer s H E hfree hr hp => by
    have nd := sc_words_before.nd
    exact (ss_cons (s_if (t_cmp (os_eq hr.units) (r_ix (r_v 1) r_int) r_str (nomark _)) (ss_cons (s_asg (gt := gTup K 3 (gNames [2, 3, 4])) (r_v 1) (pg_tup rfl (pgs_cons (pg_name (i := 2) nd rfl (Or.inl rfl)) (pgs_cons (pg_name (i := 3) nd rfl (Or.inl rfl)) (pgs_cons (pg_name (i := 4) nd rfl (Or.inl rfl)) pgs_nil)))) (tg_t [2, 3, 4]))
    (ss_one (s_ret (r_call Cexchanged hfree (hr.mono (by decide)) (by rfl) (ra_cons (r_v 0) (ra_cons (r_v 3) (ra_cons (r_bin os_add (r_tup (rl_cons (r_v 4) rl_nil)) (r_ix (r_v 0) (r_v 3))) ra_nil))))))) ss_nil)
    (ss_cons (s_if (t_cmp (os_eq hr.units) (r_ix (r_v 1) r_int) r_str (nomark _)) (ss_cons (s_asg (gt := gTup K 3 (gNames [2, 3, 4])) (r_v 1) (pg_tup rfl (pgs_cons (pg_name (i := 2) nd rfl (Or.inl rfl)) (pgs_cons (pg_name (i := 3) nd rfl (Or.inl rfl)) (pgs_cons (pg_name (i := 4) nd rfl (Or.inl rfl)) pgs_nil)))) (tg_t [2, 3, 4]))
    (ss_cons (s_set (i := 5) nd rfl (Or.inl rfl) (r_ix (r_v 0) (r_v 3)))
    (ss_one (s_if (t_w (w_and (t_cmp os_gt (r_cb cs_len (by rfl) B.len (by decide +kernel) (rl_cons (r_v 5) rl_nil)) r_int (nomark _)) (w_and1 (t_cmp os_le (r_ix (r_v 5) (r_neg r_int)) (r_v 4) (nomark _))))) (ss_one (s_ret (r_call Cexchanged hfree (hr.mono (by decide)) (by rfl) (ra_cons (r_v 0) (ra_cons (r_v 3) (ra_cons (r_sl (r_v 5) ro_none (ro_some (r_neg r_int))) ra_nil)))))) ss_nil)))) ss_nil)
    (ss_one (s_ret (r_v 0)))))
theorem sc_law_draw : FnScope ["pen", "bound", "digit"] ["pen", "bound"] (defScope (top 12)) := ⟨rfl, rfl, rfl, by decide +kernel, rfl, by decide +kernel, by decide +kernel⟩
theorem h_law_draw {f : Addr} {fd : FuncData} (F : L2.Fun K "_law_draw" "_law_draw" (top 12) f fd) (m : mg "_law_draw" = some (.ref f)) (B : Blts mg) (sy : Sy base) (C_law_fresh : Fc P w K mg base "_law_fresh" 1 1 f_law_fresh) : Fc P w K mg base "_law_draw" 2 2 f_law_draw :=
  fc_mk (k := 1) (N := ["pen", "bound", "digit"]) (ps := ["pen", "bound"]) F m sc_law_draw (F.binds (ps := ["pen", "bound"]) fun _ _ _ _ _ _ us hl => match us, hl with | [_, _], _ => rfl) fun cdv A outer s H E hfree hr hp => by
    have nd := sc_law_draw.nd
    exact (ss_cons (s_if (t_cmp (os_lt hr.units) (r_penIx 0) (r_v 1) (nomark _)) (ss_one (s_penSet 0 (r_call C_law_fresh hfree (hr.mono (by decide)) (by rfl) (ra_pen 0 ra_nil)))) ss_nil)
    (ss_cons (s_set (i := 2) nd rfl (Or.inl rfl) (r_bin os_mod (r_ct cs_int (by rfl) B.int (by decide +kernel) (rl_cons (r_penIx 0) rl_nil)) (r_v 1)))
    (ss_cons (s_penSet 0 (r_bin os_div (r_ct cs_int (by rfl) B.int (by decide +kernel) (rl_cons (r_penIx 0) rl_nil)) (r_v 1)))
    (ss_one (s_ret (r_v 2))))))
theorem sc_law_lot_back : FnScope ["program", "lot", "machine", "index", "here", "action", "there", "words"] ["program", "lot", "machine", "index"] (defScope (top 22)) := ⟨rfl, rfl, rfl, by decide +kernel, rfl, by decide +kernel, by decide +kernel⟩
theorem h_law_lot_back {f : Addr} {fd : FuncData} (F : L2.Fun K "_law_lot_back" "_law_lot_back" (top 22) f fd) (m : mg "_law_lot_back" = some (.ref f)) (B : Blts mg) (sy : Sy base) (C_law_at : Fc P w K mg base "_law_at" 1 3 f_law_at) : Fc P w K mg base "_law_lot_back" 2 4 f_law_lot_back :=
  fc_mk (k := 1) (N := ["program", "lot", "machine", "index", "here", "action", "there", "words"]) (ps := ["program", "lot", "machine", "index"]) F m sc_law_lot_back (F.binds (ps := ["program", "lot", "machine", "index"]) fun _ _ _ _ _ _ us hl => match us, hl with | [_, _, _, _], _ => rfl) fun cdv A outer s H E hfree hr hp => by
    have nd := sc_law_lot_back.nd
    exact (ss_cons (s_asg (gt := gTup K 3 (gNames [4, 5, 6])) (r_ix (r_ix (r_ix (r_ix (r_v 0) r_int) (r_v 2)) r_int) (r_v 3)) (pg_tup rfl (pgs_cons (pg_name (i := 4) nd rfl (Or.inl rfl)) (pgs_cons (pg_name (i := 5) nd rfl (Or.inl rfl)) (pgs_cons (pg_name (i := 6) nd rfl (Or.inl rfl)) pgs_nil)))) (tg_t [4, 5, 6]))
    (ss_cons (s_newLs nd rfl (Or.inl rfl) (by rfl) B.list (rl_cons (r_ix (r_v 1) r_int) rl_nil))
    (ss_cons (s_if (t_w (w_or (t_cmp (os_ne hr.units) (r_ix (r_ix (r_v 1) r_int) (r_v 2)) (r_v 6) (nomark _)) (w_or1 (t_w (w_and (t_cmp (os_eq hr.units) (r_ix (r_v 5) r_int) r_str (nomark _)) (w_and1 (t_cmp (os_ne hr.units) (r_ixO 7 (r_ix (r_v 5) r_int)) (r_tup rl_nil) (nomark _)))))))) (ss_one (s_ret (r_lst rl_nil))) ss_nil)
    (ss_cons (s_if (t_cmp (os_eq hr.units) (r_ix (r_v 5) r_int) r_str (nomark _)) (ss_one (s_ixSet 7 (r_bin os_add (r_tup (rl_cons (r_ix (r_v 5) r_int) rl_nil)) (r_ixO 7 (r_ix (r_v 5) r_int))) (r_ix (r_v 5) r_int))) ss_nil)
    (ss_cons (s_if (t_w (w_and (t_cmp (os_eq hr.units) (r_ix (r_v 5) r_int) r_str (nomark _)) (w_and (t_cmp (os_ne hr.units) (r_ixO 7 (r_ix (r_v 5) r_int)) (r_tup rl_nil) (nomark _)) (w_and1 (t_cmp os_le (r_ix (r_ixO 7 (r_ix (r_v 5) r_int)) (r_neg r_int)) (r_ix (r_v 5) r_int) (nomark _)))))) (ss_one (s_ixSet 7 (r_sl (r_ixO 7 (r_ix (r_v 5) r_int)) ro_none (ro_some (r_neg r_int))) (r_ix (r_v 5) r_int))) ss_nil)
    (ss_frz 7 (ss_one (s_ret (r_lst (rl_cons (r_tup (rl_cons (r_call C_law_at hfree (hr.mono (by decide)) (by rfl) (ra_cons (r_ix (r_v 1) r_int) (ra_cons (r_v 2) (ra_cons (r_v 4) ra_nil)))) (rl_cons (r_ct cs_tuple (by rfl) B.tuple (by decide +kernel) (rl_cons (r_v 7) rl_nil)) rl_nil))) rl_nil))))))))))
end
end K10

set_option maxRecDepth 100000
set_option maxHeartbeats 4000000
namespace K10
open PySem PySem.Spec PyProof.Rows L2 Gd Dt Dl Ee Sd
open Rf
section
variable {P : Program} {w : World} {K : PySem.W.Frag} {mg : Str → Option Value} {base : Heap}
theorem sc_back : FnScope ["program", "lot", "machine", "index", "places", "words", "start", "action", "end"] ["program", "lot", "machine", "index"] (defScope (top 7)) := ⟨rfl, rfl, rfl, by decide +kernel, rfl, by decide +kernel, by decide +kernel⟩
theorem h_back {f : Addr} {fd : FuncData} (F : L2.Fun K "back" "back" (top 7) f fd) (m : mg "back" = some (.ref f)) (B : Blts mg) (sy : Sy base) (Cstep_at : Fc P w K mg base "step_at" 1 3 f_step_at) (Ccan_end : Fc P w K mg base "can_end" 1 2 f_can_end) (Cwords_before : Fc P w K mg base "words_before" 2 2 f_words_before) (Cexchanged : Fc P w K mg base "exchanged" 1 3 f_exchanged) : Fc P w K mg base "back" 3 4 f_back :=
  fc_mk (k := 2) (N := ["program", "lot", "machine", "index", "places", "words", "start", "action", "end"]) (ps := ["program", "lot", "machine", "index"]) F m sc_back (F.binds (ps := ["program", "lot", "machine", "index"]) fun _ _ _ _ _ _ us hl => match us, hl with | [_, _, _, _], _ => rfl) fun cdv A outer s H E hfree hr hp => by
    have nd := sc_back.nd
    exact (ss_cons (s_asg (gt := gTup K 2 (gNames [4, 5])) (r_v 1) (pg_tup rfl (pgs_cons (pg_name (i := 4) nd rfl (Or.inl rfl)) (pgs_cons (pg_name (i := 5) nd rfl (Or.inl rfl)) pgs_nil))) (tg_t [4, 5]))
    (ss_cons (s_asg (gt := gTup K 3 (gNames [6, 7, 8])) (r_call Cstep_at hfree (hr.mono (by decide)) (by rfl) (ra_cons (r_v 0) (ra_cons (r_v 2) (ra_cons (r_v 3) ra_nil)))) (pg_tup rfl (pgs_cons (pg_name (i := 6) nd rfl (Or.inl rfl)) (pgs_cons (pg_name (i := 7) nd rfl (Or.inl rfl)) (pgs_cons (pg_name (i := 8) nd rfl (Or.inl rfl)) pgs_nil)))) (tg_t [6, 7, 8]))
    (ss_cons (s_if (t_w (w_or (t_cmp (os_ne hr.units) (r_ix (r_v 4) (r_v 2)) (r_v 8) (nomark _)) (w_or1 (t_not (t_val (r_call Ccan_end hfree (hr.mono (by decide)) (by rfl) (ra_cons (r_v 5) (ra_cons (r_v 7) ra_nil)))))))) (ss_one (s_ret r_non)) ss_nil)
    (ss_one (s_ret (r_tup (rl_cons (r_call Cexchanged hfree (hr.mono (by decide)) (by rfl) (ra_cons (r_v 4) (ra_cons (r_v 2) (ra_cons (r_v 6) ra_nil)))) (rl_cons (r_call Cwords_before hfree (hr.mono (by decide)) (by rfl) (ra_cons (r_v 5) (ra_cons (r_v 7) ra_nil))) rl_nil))))))))
theorem sc_law_one_of : FnScope ["pen", "some"] ["pen", "some"] (defScope (top 13)) := ⟨rfl, rfl, rfl, by decide +kernel, rfl, by decide +kernel, by decide +kernel⟩
theorem h_law_one_of {f : Addr} {fd : FuncData} (F : L2.Fun K "_law_one_of" "_law_one_of" (top 13) f fd) (m : mg "_law_one_of" = some (.ref f)) (B : Blts mg) (sy : Sy base) (C_law_draw : Fc P w K mg base "_law_draw" 2 2 f_law_draw) : Fc P w K mg base "_law_one_of" 3 2 f_law_one_of :=
  fc_mk (k := 2) (N := ["pen", "some"]) (ps := ["pen", "some"]) F m sc_law_one_of (F.binds (ps := ["pen", "some"]) fun _ _ _ _ _ _ us hl => match us, hl with | [_, _], _ => rfl) fun cdv A outer s H E hfree hr hp => by
    have nd := sc_law_one_of.nd
    exact (ss_one (s_ret (r_ix (r_v 1) (r_call C_law_draw hfree (hr.mono (by decide)) (by rfl) (ra_pen 0 (ra_cons (r_cb cs_len (by rfl) B.len (by decide +kernel) (rl_cons (r_v 1) rl_nil)) ra_nil))))))
theorem sc_law_drawn_word : FnScope ["pen", "letters", "most", "lap"] ["pen", "letters", "most"] (defScope (top 15)) := ⟨rfl, rfl, rfl, by decide +kernel, rfl, by decide +kernel, by decide +kernel⟩
theorem h_law_drawn_word {f : Addr} {fd : FuncData} (F : L2.Fun K "_law_drawn_word" "_law_drawn_word" (top 15) f fd) (m : mg "_law_drawn_word" = some (.ref f)) (B : Blts mg) (sy : Sy base) (C_law_draw : Fc P w K mg base "_law_draw" 2 2 f_law_draw) : Fc P w K mg base "_law_drawn_word" 3 3 f_law_drawn_word :=
  fc_mk (k := 2) (N := ["pen", "letters", "most", "lap"]) (ps := ["pen", "letters", "most"]) F m sc_law_drawn_word (F.binds (ps := ["pen", "letters", "most"]) fun _ _ _ _ _ _ us hl => match us, hl with | [_, _, _], _ => rfl) fun cdv A outer s H E hfree hr hp => by
    have nd := sc_law_drawn_word.nd
    exact (ss_one (s_ret (r_ct cs_tuple (by rfl) B.tuple (by decide +kernel) (rl_cons (r_lc (own := [("lap", 3)]) (gt := gName 3) rfl nd (i_range1 (by rfl) B.range (rl_cons (r_call C_law_draw hfree (hr.mono (by decide)) (by rfl) (ra_pen 0 (ra_cons (r_bin os_add (r_v 2) r_int) ra_nil))) rl_nil)) (blkOk_by (N := ["pen", "letters", "most", "lap"]) (sc := defScope (top 15)) (by decide +kernel)) (fun _ _ _ _ _ => pg_name (i := 3) nd rfl (Or.inl rfl)) (tg_n 3) (by decide) (fun _ _ _ _ _ => rc_nil) (fun _ _ _ _ _ => (r_call C_law_draw hfree (hr.mono (by decide)) (by rfl) (ra_pen 0 (ra_cons (r_v 1) ra_nil))))) rl_nil))))
theorem sc_all_back : FnScope ["program", "lot", "found", "machine", "index", "other"] ["program", "lot"] (defScope (top 8)) := ⟨rfl, rfl, rfl, by decide +kernel, rfl, by decide +kernel, by decide +kernel⟩
theorem h_all_back {f : Addr} {fd : FuncData} (F : L2.Fun K "all_back" "all_back" (top 8) f fd) (m : mg "all_back" = some (.ref f)) (B : Blts mg) (sy : Sy base) (Call_steps : Fc P w K mg base "all_steps" 1 1 f_all_steps) (Cback : Fc P w K mg base "back" 3 4 f_back) : Fc P w K mg base "all_back" 4 2 f_all_back :=
  fc_mk (k := 3) (N := ["program", "lot", "found", "machine", "index", "other"]) (ps := ["program", "lot"]) F m sc_all_back (F.binds (ps := ["program", "lot"]) fun _ _ _ _ _ _ us hl => match us, hl with | [_, _], _ => rfl) fun cdv A outer s H E hfree hr hp => by
    have nd := sc_all_back.nd
    exact (ss_cons (s_setLc (i := 2) (own := [("machine", 3), ("index", 4)]) (gt := gTup K 2 (gNames [3, 4])) rfl nd rfl rfl (sw_true rfl rfl rfl (by decide +kernel)) (i_seq (r_call Call_steps hfree (hr.mono (by decide)) (by rfl) (ra_cons (r_v 0) ra_nil))) (blkOk_by (N := ["program", "lot", "found", "machine", "index", "other"]) (sc := defScope (top 8)) (by decide +kernel)) (fun _ _ _ _ _ => pg_tup rfl (pgs_cons (pg_name (i := 3) nd rfl (Or.inl rfl)) (pgs_cons (pg_name (i := 4) nd rfl (Or.inl rfl)) pgs_nil))) (tg_t [3, 4]) (by decide) (fun _ _ _ _ _ => rc_nil) (fun _ _ _ _ _ => (r_call Cback hfree (hr.mono (by decide)) (by rfl) (ra_cons (r_v 0) (ra_cons (r_v 1) (ra_cons (r_v 3) (ra_cons (r_v 4) ra_nil)))))))
    (ss_one (s_ret (r_ct cs_tuple (by rfl) B.tuple (by decide +kernel) (rl_cons (r_sortsc rfl hr (by rfl) B.sorted (own := [("other", 5)]) (gt := gName 5) nd (i_seq (r_v 2)) (blkOk_by (N := ["program", "lot", "found", "machine", "index", "other"]) (sc := defScope (top 8)) (by decide +kernel)) (fun _ _ _ _ _ => pg_name (i := 5) nd rfl (Or.inl rfl)) (tg_n 5) (by decide) (fun _ _ _ _ _ => rc_one (t_notN (r_v 5))) (fun _ _ _ _ _ => (r_v 5))) rl_nil)))))
end
end K10

set_option maxRecDepth 100000
set_option maxHeartbeats 4000000
namespace K10
open PySem PySem.Spec PyProof.Rows L2 Gd Dt Dl Ee Sd
open Rf
section
variable {P : Program} {w : World} {K : PySem.W.Frag} {mg : Str → Option Value} {base : Heap}
theorem sc_law_drawn_step : FnScope ["pen", "lanes", "letters", "places", "word", "action"] ["pen", "lanes", "letters", "places"] (defScope (top 16)) := ⟨rfl, rfl, rfl, by decide +kernel, rfl, by decide +kernel, by decide +kernel⟩
theorem h_law_drawn_step {f : Addr} {fd : FuncData} (F : L2.Fun K "_law_drawn_step" "_law_drawn_step" (top 16) f fd) (m : mg "_law_drawn_step" = some (.ref f)) (B : Blts mg) (sy : Sy base) (C_law_one_of : Fc P w K mg base "_law_one_of" 3 2 f_law_one_of) (C_law_draw : Fc P w K mg base "_law_draw" 2 2 f_law_draw) : Fc P w K mg base "_law_drawn_step" 4 4 f_law_drawn_step :=
  fc_mk (k := 3) (N := ["pen", "lanes", "letters", "places", "word", "action"]) (ps := ["pen", "lanes", "letters", "places"]) F m sc_law_drawn_step (F.binds (ps := ["pen", "lanes", "letters", "places"]) fun _ _ _ _ _ _ us hl => match us, hl with | [_, _, _, _], _ => rfl) fun cdv A outer s H E hfree hr hp => by
    have nd := sc_law_drawn_step.nd
    exact (ss_cons (s_set (i := 4) nd rfl (Or.inl rfl) (r_call C_law_one_of hfree (hr.mono (by decide)) (by rfl) (ra_pen 0 (ra_cons (r_cst (by rfl)) ra_nil))))
    (ss_cons (s_set (i := 5) nd rfl (Or.inl rfl) (r_tup (rl_cons (r_v 4) (rl_cons (r_call C_law_draw hfree (hr.mono (by decide)) (by rfl) (ra_pen 0 (ra_cons (r_v 1) ra_nil))) (rl_cons (r_call C_law_draw hfree (hr.mono (by decide)) (by rfl) (ra_pen 0 (ra_cons (r_v 2) ra_nil))) rl_nil)))))
    (ss_cons (s_if (t_cmp (os_eq hr.units) (r_v 4) r_str (nomark _)) (ss_one (s_set (i := 5) nd rfl (Or.inl rfl) (r_sl (r_v 5) ro_none (ro_some r_int)))) ss_nil)
    (ss_one (s_ret (r_tup (rl_cons (r_call C_law_draw hfree (hr.mono (by decide)) (by rfl) (ra_pen 0 (ra_cons (r_v 3) ra_nil))) (rl_cons (r_if (t_cmp (os_ne hr.units) (r_v 4) r_str (nomark _)) (r_v 5) (r_tup (rl_cons r_str rl_nil))) (rl_cons (r_call C_law_draw hfree (hr.mono (by decide)) (by rfl) (ra_pen 0 (ra_cons (r_v 3) ra_nil))) rl_nil)))))))))
theorem sc_law_drawn_lot : FnScope ["pen", "program", "most", "places", "machine", "lap"] ["pen", "program", "most"] (defScope (top 20)) := ⟨rfl, rfl, rfl, by decide +kernel, rfl, by decide +kernel, by decide +kernel⟩
theorem h_law_drawn_lot {f : Addr} {fd : FuncData} (F : L2.Fun K "_law_drawn_lot" "_law_drawn_lot" (top 20) f fd) (m : mg "_law_drawn_lot" = some (.ref f)) (B : Blts mg) (sy : Sy base) (C_law_draw : Fc P w K mg base "_law_draw" 2 2 f_law_draw) (C_law_drawn_word : Fc P w K mg base "_law_drawn_word" 3 3 f_law_drawn_word) : Fc P w K mg base "_law_drawn_lot" 4 3 f_law_drawn_lot :=
  fc_mk (k := 3) (N := ["pen", "program", "most", "places", "machine", "lap"]) (ps := ["pen", "program", "most"]) F m sc_law_drawn_lot (F.binds (ps := ["pen", "program", "most"]) fun _ _ _ _ _ _ us hl => match us, hl with | [_, _, _], _ => rfl) fun cdv A outer s H E hfree hr hp => by
    have nd := sc_law_drawn_lot.nd
    exact (ss_cons (s_set (i := 3) nd rfl (Or.inl rfl) (r_ct cs_tuple (by rfl) B.tuple (by decide +kernel) (rl_cons (r_lc (own := [("machine", 4)]) (gt := gName 4) rfl nd (i_seq (r_ix (r_v 1) r_int)) (blkOk_by (N := ["pen", "program", "most", "places", "machine", "lap"]) (sc := defScope (top 20)) (by decide +kernel)) (fun _ _ _ _ _ => pg_name (i := 4) nd rfl (Or.inl rfl)) (tg_n 4) (by decide) (fun _ _ _ _ _ => rc_nil) (fun _ _ _ _ _ => (r_call C_law_draw hfree (hr.mono (by decide)) (by rfl) (ra_pen 0 (ra_cons (r_ix (r_v 4) r_int) ra_nil))))) rl_nil)))
    (ss_one (s_ret (r_tup (rl_cons (r_v 3) (rl_cons (r_ct cs_tuple (by rfl) B.tuple (by decide +kernel) (rl_cons (r_lc (own := [("lap", 5)]) (gt := gName 5) rfl nd (i_range1 (by rfl) B.range (rl_cons (r_ix (r_v 1) r_int) rl_nil)) (blkOk_by (N := ["pen", "program", "most", "places", "machine", "lap"]) (sc := defScope (top 20)) (by decide +kernel)) (fun _ _ _ _ _ => pg_name (i := 5) nd rfl (Or.inl rfl)) (tg_n 5) (by decide) (fun _ _ _ _ _ => rc_nil) (fun _ _ _ _ _ => (r_call C_law_drawn_word hfree (hr.mono (by decide)) (by rfl) (ra_pen 0 (ra_cons (r_ix (r_v 1) r_int) (ra_cons (r_v 2) ra_nil)))))) rl_nil)) rl_nil))))))
theorem sc_law_drawn_machine : FnScope ["pen", "lanes", "letters", "places", "most", "some", "lap"] ["pen", "lanes", "letters", "places", "most"] (defScope (top 17)) := ⟨rfl, rfl, rfl, by decide +kernel, rfl, by decide +kernel, by decide +kernel⟩
theorem h_law_drawn_machine {f : Addr} {fd : FuncData} (F : L2.Fun K "_law_drawn_machine" "_law_drawn_machine" (top 17) f fd) (m : mg "_law_drawn_machine" = some (.ref f)) (B : Blts mg) (sy : Sy base) (C_law_draw : Fc P w K mg base "_law_draw" 2 2 f_law_draw) (C_law_drawn_step : Fc P w K mg base "_law_drawn_step" 4 4 f_law_drawn_step) : Fc P w K mg base "_law_drawn_machine" 5 5 f_law_drawn_machine :=
  fc_mk (k := 4) (N := ["pen", "lanes", "letters", "places", "most", "some", "lap"]) (ps := ["pen", "lanes", "letters", "places", "most"]) F m sc_law_drawn_machine (F.binds (ps := ["pen", "lanes", "letters", "places", "most"]) fun _ _ _ _ _ _ us hl => match us, hl with | [_, _, _, _, _], _ => rfl) fun cdv A outer s H E hfree hr hp => by
    have nd := sc_law_drawn_machine.nd
    exact (ss_cons (s_setLc (i := 5) (own := [("lap", 6)]) (gt := gName 6) rfl nd rfl rfl (sw_true rfl rfl rfl (by decide +kernel)) (i_range1 (by rfl) B.range (rl_cons (r_call C_law_draw hfree (hr.mono (by decide)) (by rfl) (ra_pen 0 (ra_cons (r_bin os_add (r_v 4) r_int) ra_nil))) rl_nil)) (blkOk_by (N := ["pen", "lanes", "letters", "places", "most", "some", "lap"]) (sc := defScope (top 17)) (by decide +kernel)) (fun _ _ _ _ _ => pg_name (i := 6) nd rfl (Or.inl rfl)) (tg_n 6) (by decide) (fun _ _ _ _ _ => rc_nil) (fun _ _ _ _ _ => (r_call C_law_drawn_step hfree (hr.mono (by decide)) (by rfl) (ra_pen 0 (ra_cons (r_v 1) (ra_cons (r_v 2) (ra_cons (r_v 3) ra_nil)))))))
    (ss_one (s_ret (r_tup (rl_cons (r_v 3) (rl_cons (r_ct cs_tuple (by rfl) B.tuple (by decide +kernel) (rl_cons (r_sortset rfl hr (by rfl) B.sorted (by rfl) B.set (r_v 5)) rl_nil)) rl_nil))))))
theorem sc_law_drawn_program : FnScope ["pen", "most", "lanes", "letters", "many", "machines", "lap", "places"] ["pen", "most"] (defScope (top 18)) := ⟨rfl, rfl, rfl, by decide +kernel, rfl, by decide +kernel, by decide +kernel⟩
theorem h_law_drawn_program {f : Addr} {fd : FuncData} (F : L2.Fun K "_law_drawn_program" "_law_drawn_program" (top 18) f fd) (m : mg "_law_drawn_program" = some (.ref f)) (B : Blts mg) (sy : Sy base) (C_law_one_of : Fc P w K mg base "_law_one_of" 3 2 f_law_one_of) (C_law_draw : Fc P w K mg base "_law_draw" 2 2 f_law_draw) (C_law_drawn_machine : Fc P w K mg base "_law_drawn_machine" 5 5 f_law_drawn_machine) : Fc P w K mg base "_law_drawn_program" 6 2 f_law_drawn_program :=
  fc_mk (k := 5) (N := ["pen", "most", "lanes", "letters", "many", "machines", "lap", "places"]) (ps := ["pen", "most"]) F m sc_law_drawn_program (F.binds (ps := ["pen", "most"]) fun _ _ _ _ _ _ us hl => match us, hl with | [_, _], _ => rfl) fun cdv A outer s H E hfree hr hp => by
    have nd := sc_law_drawn_program.nd
    exact (ss_cons (s_par (i := 2) (j := 3) rfl nd rfl rfl (by decide) rfl rfl (rl_cons (r_call C_law_one_of hfree (hr.mono (by decide)) (by rfl) (ra_pen 0 (ra_cons (r_lst (rl_cons r_int (rl_cons r_int (rl_cons r_int (rl_cons r_int (rl_cons r_int rl_nil)))))) ra_nil))) (rl_cons (r_call C_law_one_of hfree (hr.mono (by decide)) (by rfl) (ra_pen 0 (ra_cons (r_lst (rl_cons r_int (rl_cons r_int (rl_cons r_int (rl_cons r_int rl_nil))))) ra_nil))) rl_nil)) (by rfl))
    (ss_cons (s_set (i := 4) nd rfl (Or.inl rfl) (r_call C_law_one_of hfree (hr.mono (by decide)) (by rfl) (ra_pen 0 (ra_cons (r_lst (rl_cons r_int (rl_cons r_int (rl_cons r_int (rl_cons r_int (rl_cons r_int rl_nil)))))) ra_nil))))
    (ss_cons (s_set (i := 5) nd rfl (Or.inl rfl) (r_tup rl_nil))
    (ss_cons (s_for (gt := gName 6) hp rfl (i_range1 (by rfl) B.range (rl_cons (r_v 4) rl_nil)) (pg_name (i := 6) nd rfl (Or.inl rfl)) (tg_n 6) (ss_cons (s_set (i := 7) nd rfl (Or.inl rfl) (r_bin os_add r_int (r_call C_law_draw hfree (hr.mono (by decide)) (by rfl) (ra_pen 0 (ra_cons (r_call C_law_one_of hfree (hr.mono (by decide)) (by rfl) (ra_pen 0 (ra_cons (r_if (t_cmp (os_lt hr.units) (r_v 4) r_int (nomark _)) (r_lst (rl_cons r_int (rl_cons r_int (rl_cons r_int rl_nil)))) (r_lst (rl_cons r_int (rl_cons r_int (rl_cons r_int (rl_cons r_int rl_nil)))))) ra_nil))) ra_nil)))))
    (ss_one (s_set (i := 5) nd rfl (Or.inl rfl) (r_bin os_add (r_v 5) (r_tup (rl_cons (r_call C_law_drawn_machine hfree (hr.mono (by decide)) (by rfl) (ra_pen 0 (ra_cons (r_v 2) (ra_cons (r_v 3) (ra_cons (r_v 7) (ra_cons (r_v 1) ra_nil)))))) rl_nil)))))))
    (ss_one (s_ret (r_tup (rl_cons (r_v 2) (rl_cons (r_v 3) (rl_cons (r_v 5) rl_nil))))))))))
end
end K10

set_option maxRecDepth 100000
set_option maxHeartbeats 4000000
namespace K10
open PySem PySem.Spec PyProof.Rows L2 Gd Dt Dl Ee Sd
open Rf
section
variable {P : Program} {w : World} {K : PySem.W.Frag} {mg : Str → Option Value} {base : Heap}
theorem sc_law_wide_program : FnScope ["pen", "most", "lanes", "letters", "machines", "places", "steps"] ["pen", "most"] (defScope (top 19)) := ⟨rfl, rfl, rfl, by decide +kernel, rfl, by decide +kernel, by decide +kernel⟩
theorem h_law_wide_program {f : Addr} {fd : FuncData} (F : L2.Fun K "_law_wide_program" "_law_wide_program" (top 19) f fd) (m : mg "_law_wide_program" = some (.ref f)) (B : Blts mg) (sy : Sy base) (C_law_draw : Fc P w K mg base "_law_draw" 2 2 f_law_draw) (C_law_drawn_program : Fc P w K mg base "_law_drawn_program" 6 2 f_law_drawn_program) : Fc P w K mg base "_law_wide_program" 7 2 f_law_wide_program :=
  fc_mk (k := 6) (N := ["pen", "most", "lanes", "letters", "machines", "places", "steps"]) (ps := ["pen", "most"]) F m sc_law_wide_program (F.binds (ps := ["pen", "most"]) fun _ _ _ _ _ _ us hl => match us, hl with | [_, _], _ => rfl) fun cdv A outer s H E hfree hr hp => by
    have nd := sc_law_wide_program.nd
    exact (ss_cons (s_asg (gt := gTup K 3 (gNames [2, 3, 4])) (r_call C_law_drawn_program hfree (hr.mono (by decide)) (by rfl) (ra_pen 0 (ra_cons (r_if (t_cmp (os_eq hr.units) (r_call C_law_draw hfree (hr.mono (by decide)) (by rfl) (ra_pen 0 (ra_cons r_int ra_nil))) r_int (nomark _)) r_int (r_v 1)) ra_nil))) (pg_tup rfl (pgs_cons (pg_name (i := 2) nd rfl (Or.inl rfl)) (pgs_cons (pg_name (i := 3) nd rfl (Or.inl rfl)) (pgs_cons (pg_name (i := 4) nd rfl (Or.inl rfl)) pgs_nil)))) (tg_t [2, 3, 4]))
    (ss_one (s_ret (r_tup (rl_cons (r_v 2) (rl_cons (r_v 3) (rl_cons (r_ct cs_tuple (by rfl) B.tuple (by decide +kernel) (rl_cons (r_lc (own := [("places", 5), ("steps", 6)]) (gt := gTup K 2 (gNames [5, 6])) rfl nd (i_seq (r_v 4)) (blkOk_by (N := ["pen", "most", "lanes", "letters", "machines", "places", "steps"]) (sc := defScope (top 19)) (by decide +kernel)) (fun _ _ _ _ _ => pg_tup rfl (pgs_cons (pg_name (i := 5) nd rfl (Or.inl rfl)) (pgs_cons (pg_name (i := 6) nd rfl (Or.inl rfl)) pgs_nil))) (tg_t [5, 6]) (by decide) (fun _ _ _ _ _ => rc_nil) (fun _ _ _ _ _ => (r_tup (rl_cons (r_v 5) (rl_cons (r_sl (r_v 6) ro_none (ro_some r_int)) rl_nil))))) rl_nil)) rl_nil)))))))
end
end K10

set_option maxRecDepth 100000
set_option maxHeartbeats 4000000
namespace K10
open PySem PySem.Spec PyProof.Rows L2 Gd Dt Dl Ee Sd
open Rf
section
variable {P : Program} {w : World} {K : PySem.W.Frag} {mg : Str → Option Value} {base : Heap}
theorem sc_law : FnScope ["script", "pen", "lap", "program", "turn", "lot", "kept", "found", "machine", "index", "due"] ["script"] (defScope (top 23)) := ⟨rfl, rfl, rfl, by decide +kernel, rfl, by decide +kernel, by decide +kernel⟩
theorem h_law {f : Addr} {fd : FuncData} (F : L2.Fun K "law" "law" (top 23) f fd) (C_law_pen : Dl.Cal P w K mg base "_law_pen" 1 ["script"] (Rf.spPen K)) (B : Blts mg) (sy : Sy base) (C_law_wide_program : Fc P w K mg base "_law_wide_program" 7 2 f_law_wide_program) (C_law_one_of : Fc P w K mg base "_law_one_of" 3 2 f_law_one_of) (C_law_drawn_lot : Fc P w K mg base "_law_drawn_lot" 4 3 f_law_drawn_lot) (C_law_all_pairs : Fc P w K mg base "_law_all_pairs" 1 1 f_law_all_pairs) (C_law_lot_back : Fc P w K mg base "_law_lot_back" 2 4 f_law_lot_back) (Cback : Fc P w K mg base "back" 3 4 f_back) (Call_back : Fc P w K mg base "all_back" 4 2 f_all_back) (holds : ∀ ns : List Int, ns.length ≤ 63 → ∃ s', b_law (lawF 11 ns) (0, 0) = .ok (.rt (.bool true)) s') : Gd.Fn P w K mg base 8 f fd ["script"] (Rf.spLaw K) :=
  law_fn (k := 7) (N := ["script", "pen", "lap", "program", "turn", "lot", "kept", "found", "machine", "index", "due"]) F sc_law (by decide) rfl (fun cdv A outer s H E hfree hr => by
    have nd := sc_law.nd
    exact ps_set (i := 1) nd rfl (Or.inl rfl) (Dl.pe_c C_law_pen (hr.mono (by decide)) rfl (pa_cons (pv 0) pa_nil))) (fun cdv A outer s H E hfree hr hp => by
    have nd := sc_law.nd
    exact (ss_cons (s_for (gt := gName 2) hp rfl (i_range1 (by rfl) B.range (rl_cons r_int rl_nil)) (pg_name (i := 2) nd rfl (Or.inl rfl)) (tg_n 2) (ss_cons (s_set (i := 3) nd rfl (Or.inl rfl) (r_call C_law_wide_program hfree (hr.mono (by decide)) (by rfl) (ra_pen 1 (ra_cons r_int ra_nil))))
    (ss_one (s_for (gt := gName 4) hp rfl (i_range1 (by rfl) B.range (rl_cons r_int rl_nil)) (pg_name (i := 4) nd rfl (Or.inl rfl)) (tg_n 4) (ss_cons (s_set (i := 5) nd rfl (Or.inl rfl) (r_call C_law_drawn_lot hfree (hr.mono (by decide)) (by rfl) (ra_pen 1 (ra_cons (r_v 3) (ra_cons (r_call C_law_one_of hfree (hr.mono (by decide)) (by rfl) (ra_pen 1 (ra_cons (r_lst (rl_cons r_int (rl_cons r_int (rl_cons r_int (rl_cons r_int rl_nil))))) ra_nil))) ra_nil)))))
    (ss_cons (s_par (i := 6) (j := 7) rfl nd rfl rfl (by decide) rfl rfl (rl_cons (r_cb (cs_repr hfree hr sy) (by rfl) B.repr (by decide +kernel) (rl_cons (r_tup (rl_cons (r_v 3) (rl_cons (r_v 5) rl_nil))) rl_nil)) (rl_cons (r_lst rl_nil) rl_nil)) (by rfl))
    (ss_cons (s_for (gt := gTup K 2 (gNames [8, 9])) hp rfl (i_seq (r_call C_law_all_pairs hfree (hr.mono (by decide)) (by rfl) (ra_cons (r_v 3) ra_nil))) (pg_tup rfl (pgs_cons (pg_name (i := 8) nd rfl (Or.inl rfl)) (pgs_cons (pg_name (i := 9) nd rfl (Or.inl rfl)) pgs_nil))) (tg_t [8, 9]) (ss_cons (s_set (i := 10) nd rfl (Or.inl rfl) (r_call C_law_lot_back hfree (hr.mono (by decide)) (by rfl) (ra_cons (r_v 3) (ra_cons (r_v 5) (ra_cons (r_v 8) (ra_cons (r_v 9) ra_nil))))))
    (ss_cons (s_if (t_cmp (os_ne hr.units) (r_cb (cs_repr hfree hr sy) (by rfl) B.repr (by decide +kernel) (rl_cons (r_call Cback hfree (hr.mono (by decide)) (by rfl) (ra_cons (r_v 3) (ra_cons (r_v 5) (ra_cons (r_v 8) (ra_cons (r_v 9) ra_nil))))) rl_nil)) (r_cb (cs_repr hfree hr sy) (by rfl) B.repr (by decide +kernel) (rl_cons (r_if (t_cmp (os_ne hr.units) (r_v 10) (r_lst rl_nil) (nomark _)) (r_ix (r_v 10) r_int) r_non) rl_nil)) (nomark _)) (ss_one (s_ret r_bl)) ss_nil)
    (ss_one (s_set (i := 7) nd rfl (Or.inl rfl) (r_bin os_add (r_v 7) (r_v 10)))))))
    (ss_one (s_if (t_w (w_or (t_cmp (os_ne hr.units) (r_cb (cs_repr hfree hr sy) (by rfl) B.repr (by decide +kernel) (rl_cons (r_call Call_back hfree (hr.mono (by decide)) (by rfl) (ra_cons (r_v 3) (ra_cons (r_v 5) ra_nil))) rl_nil)) (r_cb (cs_repr hfree hr sy) (by rfl) B.repr (by decide +kernel) (rl_cons (r_ct cs_tuple (by rfl) B.tuple (by decide +kernel) (rl_cons (r_sortset rfl hr (by rfl) B.sorted (by rfl) B.set (r_v 7)) rl_nil)) rl_nil)) (nomark _)) (w_or1 (t_cmp (os_ne hr.units) (r_cb (cs_repr hfree hr sy) (by rfl) B.repr (by decide +kernel) (rl_cons (r_tup (rl_cons (r_v 3) (rl_cons (r_v 5) rl_nil))) rl_nil)) (r_v 6) (nomark _))))) (ss_one (s_ret r_bl)) ss_nil)))))))))
    (ss_one (s_ret r_bl)))) holds
end
end K10

set_option maxRecDepth 100000
set_option maxHeartbeats 4000000
namespace K10
open PySem PySem.Spec PyProof.Rows L2 Gd Dt Dl Ee Sd
open Rf
theorem all_mk {l : PySem.W.OpenLaw} {w : World} {K : PySem.W.Frag} {h : Heap} {mg : Str → Option Value} {fa f0 f1 f2 f3 f4 f5 f6 f7 f8 f9 f10 f11 f12 f13 f14 f15 f16 f17 f18 f19 f20 : Addr} {e0 e1 e2 e3 e4 e5 e6 e7 e8 e9 e10 e11 e12 e13 e14 e15 e16 e17 e18 e19 : FuncData} {kV doc pm cdv ct : Value} {an : Option Addr}
    (X : K.In h) (G : h.Ns mainGlobals mg) (hfa : mg "law" = some (.ref fa))
    (d0 : Gd.Dfn K "step_at" (top 1) f0 e0)
    (d1 : Gd.Dfn K "all_steps" (top 2) f1 e1)
    (d2 : Gd.Dfn K "exchanged" (top 3) f2 e2)
    (d3 : Gd.Dfn K "can_end" (top 5) f3 e3)
    (d4 : Gd.Dfn K "_law_pen" (top 10) f4 e4)
    (d5 : Gd.Dfn K "_law_fresh" (top 11) f5 e5)
    (d6 : Gd.Dfn K "_law_at" (top 14) f6 e6)
    (d7 : Gd.Dfn K "_law_all_pairs" (top 21) f7 e7)
    (d8 : Gd.Dfn K "words_before" (top 6) f8 e8)
    (d9 : Gd.Dfn K "_law_draw" (top 12) f9 e9)
    (d10 : Gd.Dfn K "_law_lot_back" (top 22) f10 e10)
    (d11 : Gd.Dfn K "back" (top 7) f11 e11)
    (d12 : Gd.Dfn K "_law_one_of" (top 13) f12 e12)
    (d13 : Gd.Dfn K "_law_drawn_word" (top 15) f13 e13)
    (d14 : Gd.Dfn K "all_back" (top 8) f14 e14)
    (d15 : Gd.Dfn K "_law_drawn_step" (top 16) f15 e15)
    (d16 : Gd.Dfn K "_law_drawn_lot" (top 20) f16 e16)
    (d17 : Gd.Dfn K "_law_drawn_machine" (top 17) f17 e17)
    (d18 : Gd.Dfn K "_law_drawn_program" (top 18) f18 e18)
    (d19 : Gd.Dfn K "_law_wide_program" (top 19) f19 e19)
    (d20 : Gd.Dfn K "law" (top 23) f20 (PySem.W.fnOf "law" "law" (defArgs (top 23)) (defBody (top 23)) (defScope (top 23)) .none kV doc pm an cdv ct))
    (z0 : PySem.W.nsIn K mainGlobals "len" = some none)
    (z1 : PySem.W.nsIn K mainGlobals "int" = some none)
    (z2 : PySem.W.nsIn K mainGlobals "list" = some none)
    (z3 : PySem.W.nsIn K mainGlobals "tuple" = some none)
    (z4 : PySem.W.nsIn K mainGlobals "repr" = some none)
    (z5 : PySem.W.nsIn K mainGlobals "range" = some none)
    (z6 : PySem.W.nsIn K mainGlobals "zip" = some none)
    (z7 : PySem.W.nsIn K mainGlobals "all" = some none)
    (z8 : PySem.W.nsIn K mainGlobals "any" = some none)
    (z9 : PySem.W.nsIn K mainGlobals "enumerate" = some none)
    (z10 : PySem.W.nsIn K mainGlobals "isinstance" = some none)
    (z11 : PySem.W.nsIn K mainGlobals "bool" = some none)
    (z12 : PySem.W.nsIn K mainGlobals "str" = some none)
    (z13 : PySem.W.nsIn K mainGlobals "sorted" = some none)
    (z14 : PySem.W.nsIn K mainGlobals "set" = some none)
    (z15 : PySem.W.nsIn K mainGlobals "max" = some none)
    (z16 : PySem.W.nsIn K mainGlobals "sum" = some none)
    (z17 : PySem.W.nsIn K mainGlobals "ValueError" = some none)
    (z18 : PySem.W.nsIn K mainGlobals "RuntimeError" = some none)
    (z19 : PySem.W.nsIn K mainGlobals "LookupError" = some none)
    (z20 : PySem.W.nsIn K mainGlobals "OverflowError" = some none)
    : ∃ fd : FuncData, (∀ (s : Shared) (v : Value), BindsTo s fd ⟨[v], []⟩ [("script", v)]) ∧ ∀ base : Heap, K.In base → base.Ns mainGlobals mg → Gd.Sy base → Gd.Fn l.prog w K mg base 8 fa fd ["script"] (Rf.spLaw K) := by
  have e := hfa.symm.trans (PySem.W.mg_of X G d20.1)
  cases e
  refine ⟨PySem.W.fnOf "law" "law" (defArgs (top 23)) (defBody (top 23)) (defScope (top 23)) .none kV doc pm an cdv ct, fun s v => .of_eq rfl, fun base _ _ sy => ?_⟩
  have no : ∀ {x : Str}, PySem.W.nsIn K mainGlobals x = some none → mg x = none := fun z => PySem.W.mg_none_of X G z
  have B : Blts mg := ⟨no z0, no z1, no z2, no z3, no z4, no z5, no z6, no z7, no z8, no z9, no z10, no z11, no z12, no z13, no z14, no z15, no z16, no z17, no z18, no z19, no z20⟩
  have at_ : ∀ {x : Str} {f : Addr}, PySem.W.nsIn K mainGlobals x = some (some (.ref f)) → mg x = some (.ref f) := fun a => PySem.W.mg_of X G a
  have Cstep_at := h_step_at (P := l.prog) (w := w) (base := base) d0.2 (at_ d0.1) B sy
  have Call_steps := h_all_steps (P := l.prog) (w := w) (base := base) d1.2 (at_ d1.1) B sy
  have Cexchanged := h_exchanged (P := l.prog) (w := w) (base := base) d2.2 (at_ d2.1) B sy
  have Ccan_end := h_can_end (P := l.prog) (w := w) (base := base) d3.2 (at_ d3.1) B sy
  have C_law_pen := h_law_pen (P := l.prog) (w := w) (base := base) d4.2 (at_ d4.1) B
  have C_law_fresh := h_law_fresh (P := l.prog) (w := w) (base := base) d5.2 (at_ d5.1) B sy
  have C_law_at := h_law_at (P := l.prog) (w := w) (base := base) d6.2 (at_ d6.1) B sy
  have C_law_all_pairs := h_law_all_pairs (P := l.prog) (w := w) (base := base) d7.2 (at_ d7.1) B sy
  have Cwords_before := h_words_before (P := l.prog) (w := w) (base := base) d8.2 (at_ d8.1) B sy Cexchanged
  have C_law_draw := h_law_draw (P := l.prog) (w := w) (base := base) d9.2 (at_ d9.1) B sy C_law_fresh
  have C_law_lot_back := h_law_lot_back (P := l.prog) (w := w) (base := base) d10.2 (at_ d10.1) B sy C_law_at
  have Cback := h_back (P := l.prog) (w := w) (base := base) d11.2 (at_ d11.1) B sy Cstep_at Ccan_end Cwords_before Cexchanged
  have C_law_one_of := h_law_one_of (P := l.prog) (w := w) (base := base) d12.2 (at_ d12.1) B sy C_law_draw
  have C_law_drawn_word := h_law_drawn_word (P := l.prog) (w := w) (base := base) d13.2 (at_ d13.1) B sy C_law_draw
  have Call_back := h_all_back (P := l.prog) (w := w) (base := base) d14.2 (at_ d14.1) B sy Call_steps Cback
  have C_law_drawn_step := h_law_drawn_step (P := l.prog) (w := w) (base := base) d15.2 (at_ d15.1) B sy C_law_one_of C_law_draw
  have C_law_drawn_lot := h_law_drawn_lot (P := l.prog) (w := w) (base := base) d16.2 (at_ d16.1) B sy C_law_draw C_law_drawn_word
  have C_law_drawn_machine := h_law_drawn_machine (P := l.prog) (w := w) (base := base) d17.2 (at_ d17.1) B sy C_law_draw C_law_drawn_step
  have C_law_drawn_program := h_law_drawn_program (P := l.prog) (w := w) (base := base) d18.2 (at_ d18.1) B sy C_law_one_of C_law_draw C_law_drawn_machine
  have C_law_wide_program := h_law_wide_program (P := l.prog) (w := w) (base := base) d19.2 (at_ d19.1) B sy C_law_draw C_law_drawn_program
  exact h_law d20.2 C_law_pen B sy C_law_wide_program C_law_one_of C_law_drawn_lot C_law_all_pairs C_law_lot_back Cback Call_back holds
end K10
open PySem PySem.W PyProof.Rows
set_option maxRecDepth 100000 in
set_option maxHeartbeats 0 in
theorem PySem.Challenge.cw_losinglanes_k10_steps_back_holds : PySem.Challenge.rw_losinglanes_k10_steps_back.Holds := by
  w_on; o_law; k_head; (case hw => w_witness2)
  k_fill
  refine Gd.walk_endS (l := PySem.Challenge.rw_losinglanes_k10_steps_back) (n := 63) (k := 8) (x := "script") (sp := Rf.spLaw) (by decide +kernel) rfl (by decide) rfl ⟨rfl, by decide, by decide⟩ (fun w h Y => PySem.W.kIn_of Y) ?F (fun K H a ns hl hS => ⟨a, ns, rfl, hS, hl, fun _ => rfl⟩)
  case F =>
    intro w mg fa h KX G hmg
    refine' K10.all_mk KX G hmg ?d0 ?d1 ?d2 ?d3 ?d4 ?d5 ?d6 ?d7 ?d8 ?d9 ?d10 ?d11 ?d12 ?d13 ?d14 ?d15 ?d16 ?d17 ?d18 ?d19 ?d20 ?z0 ?z1 ?z2 ?z3 ?z4 ?z5 ?z6 ?z7 ?z8 ?z9 ?z10 ?z11 ?z12 ?z13 ?z14 ?z15 ?z16 ?z17 ?z18 ?z19 ?z20
    (case d0 => refine' Gd.dfn_mk ?a ?l ?c ?k; (case a => k_is); (case l => k_is); (case c => k_is); (case k => k_is))
    (case d1 => refine' Gd.dfn_mk ?a ?l ?c ?k; (case a => k_is); (case l => k_is); (case c => k_is); (case k => k_is))
    (case d2 => refine' Gd.dfn_mk ?a ?l ?c ?k; (case a => k_is); (case l => k_is); (case c => k_is); (case k => k_is))
    (case d3 => refine' Gd.dfn_mk ?a ?l ?c ?k; (case a => k_is); (case l => k_is); (case c => k_is); (case k => k_is))
    (case d4 => refine' Gd.dfn_mk ?a ?l ?c ?k; (case a => k_is); (case l => k_is); (case c => k_is); (case k => k_is))
    (case d5 => refine' Gd.dfn_mk ?a ?l ?c ?k; (case a => k_is); (case l => k_is); (case c => k_is); (case k => k_is))
    (case d6 => refine' Gd.dfn_mk ?a ?l ?c ?k; (case a => k_is); (case l => k_is); (case c => k_is); (case k => k_is))
    (case d7 => refine' Gd.dfn_mk ?a ?l ?c ?k; (case a => k_is); (case l => k_is); (case c => k_is); (case k => k_is))
    (case d8 => refine' Gd.dfn_mk ?a ?l ?c ?k; (case a => k_is); (case l => k_is); (case c => k_is); (case k => k_is))
    (case d9 => refine' Gd.dfn_mk ?a ?l ?c ?k; (case a => k_is); (case l => k_is); (case c => k_is); (case k => k_is))
    (case d10 => refine' Gd.dfn_mk ?a ?l ?c ?k; (case a => k_is); (case l => k_is); (case c => k_is); (case k => k_is))
    (case d11 => refine' Gd.dfn_mk ?a ?l ?c ?k; (case a => k_is); (case l => k_is); (case c => k_is); (case k => k_is))
    (case d12 => refine' Gd.dfn_mk ?a ?l ?c ?k; (case a => k_is); (case l => k_is); (case c => k_is); (case k => k_is))
    (case d13 => refine' Gd.dfn_mk ?a ?l ?c ?k; (case a => k_is); (case l => k_is); (case c => k_is); (case k => k_is))
    (case d14 => refine' Gd.dfn_mk ?a ?l ?c ?k; (case a => k_is); (case l => k_is); (case c => k_is); (case k => k_is))
    (case d15 => refine' Gd.dfn_mk ?a ?l ?c ?k; (case a => k_is); (case l => k_is); (case c => k_is); (case k => k_is))
    (case d16 => refine' Gd.dfn_mk ?a ?l ?c ?k; (case a => k_is); (case l => k_is); (case c => k_is); (case k => k_is))
    (case d17 => refine' Gd.dfn_mk ?a ?l ?c ?k; (case a => k_is); (case l => k_is); (case c => k_is); (case k => k_is))
    (case d18 => refine' Gd.dfn_mk ?a ?l ?c ?k; (case a => k_is); (case l => k_is); (case c => k_is); (case k => k_is))
    (case d19 => refine' Gd.dfn_mk ?a ?l ?c ?k; (case a => k_is); (case l => k_is); (case c => k_is); (case k => k_is))
    (case d20 => refine' Gd.dfn_mk ?a ?l ?c ?k; (case a => k_is); (case l => k_is); (case c => k_is); (case k => k_is))
    (case z0 => k_is)
    (case z1 => k_is)
    (case z2 => k_is)
    (case z3 => k_is)
    (case z4 => k_is)
    (case z5 => k_is)
    (case z6 => k_is)
    (case z7 => k_is)
    (case z8 => k_is)
    (case z9 => k_is)
    (case z10 => k_is)
    (case z11 => k_is)
    (case z12 => k_is)
    (case z13 => k_is)
    (case z14 => k_is)
    (case z15 => k_is)
    (case z16 => k_is)
    (case z17 => k_is)
    (case z18 => k_is)
    (case z19 => k_is)
    (case z20 => k_is)

