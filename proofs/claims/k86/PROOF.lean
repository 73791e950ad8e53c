import PyProof.Rows.All
import Wide.All
import OpenK.AllK
import Wide.FinOn
import HandS.ForMost
import HandS.Evl
import HandS.ExcInit
import HandS.Dict
import HandS.TupAny
import HandS.TupMul
import HandS.Zip
import HandS.Style
import PyProof.ReprLen
import KE.KExcInit
import KE.KExcIs
import HandS.IsInst
import HandS.Defaults
import HandS.Ends
import HandS.Wide
import PySem.Challenge.RW_losinglanes_k86_errors_required
set_option Elab.async false
set_option linter.all false
set_option maxRecDepth 100000
set_option maxHeartbeats 4000000
namespace Gd
open PySem PySem.Spec PyProof.Rows L2

/-- nothing is being shown around: no repr is on its way -/
def Free (A : Around) : Prop := A.guards = some []
theorem Free.deeper {A : Around} (g : Free A) (env : Env) : Free (A.deeper env) := g

/-- a def's promise where it is called from a place at which no repr is on its way -/
structure Fn (P : Program) (w : World) (K : PySem.W.Frag) (mg : Str → Option Value) (base : Heap) (k : Nat) (f : Addr) (fd : FuncData) (ps : List Str) (sp : Sp) : Prop where
  len : ∀ vs H Q E, sp vs H Q E → vs.length = ps.length
  run : ∀ (A : Around) (outer : List Env) (s : Shared) (H : Hp) (args : Args) (us : List Value) (vs : List V) (Q : VK) (E : XK),
    Free A → Room k A → Env0 P w K mg base A outer s H → BindsTo s fd args (ps.zip us) → Vals vs us → sp vs H Q E →
      codeAny (model P w) A (.call (.ref f) args) (CR CX0 outer P w H s Q E) s

section
variable {P : Program} {w : World} {K : PySem.W.Frag} {mg : Str → Option Value} {base : Heap} {k : Nat} {f : Addr} {fd : FuncData} {ps : List Str} {sp : Sp}
theorem Fn.of (F : FnOk P w K mg base CX0 k f fd ps sp) : Fn P w K mg base k f fd ps sp :=
  ⟨F.len, fun A outer s H args us vs Q E _ => F.run A outer s H args us vs Q E⟩

/-- a def of the text, by its body; the body is read where no repr is on its way -/
theorem ok {x qual : Str} {st : Stmt} {N : List Str} (F : Fun K x qual st f fd) (S : FnScope N ps (defScope st)) (len : ∀ vs H Q E, sp vs H Q E → vs.length = ps.length)
    (hbody : ∀ (cdv : Value) (A : Around) (outer : List Env) (s : Shared) (H : Hp) (vs : List V) (Q : VK) (E : XK),
      Free A → Room k (A.deeper (envOfC qual (defScope st) s.heap.objs.size f cdv)) → sp vs H Q E →
        ∃ t, PSs (cxOf CX0 P w K mg base N qual (defScope st) f cdv A outer s H E).nox (defBody st) t ∧
          t { nx := fun _ H' => Q .non H', rt := Q } (start N vs) H) : Fn P w K mg base (k + 1) f fd ps sp := by
  obtain ⟨oc, od, kV, doc, pm, an, cdv, ct, osl, rfl, lk, hcd⟩ := F.ex
  constructor
  · exact len
  intro A outer s H args us vs Q E hg hr e0 hb r hsp
  have hl := len _ _ _ _ hsp
  have keeps : ∀ b o, base.get? b = some o → s.heap.get? b = some o := fun b o e => (e0.bs b o e).1
  have KX := e0.mod.kin.keeps keeps
  have lim := e0.mod.nolimit.keeps keeps
  apply codeAny_call_function hr.depth (KX _ _ lk) rfl S.co S.gen rfl (PySem.W.codeRec_of KX hcd)
  apply hb
  apply wpAny_newFunctionEnv_cells S.kind
  · rintro ⟨n, v⟩ hy
    cases S.par n (List.of_mem_zip hy).1 with
    | inl q => exact .inl q
    | inr q => exact .inr ⟨q, PySem.W.cellsFrom_some _ _ _ (.inl q)⟩
  rintro env rfl s1 x
  refine ⟨lim.keeps x.toInCall.keep, ?_⟩
  apply codeAny_func
  obtain ⟨t, ht, hq⟩ := hbody cdv A outer s H vs Q E hg (hr.deeper _) hsp
  have I := inv_start (CX := CX0) (E := E) S hr.hd e0 hl r x
  apply wpAny_mono (ht.nox.run [] s1 (start N vs) H _ I hq)
  · intro fl s' hs
    cases fl with
    | ret u =>
      obtain ⟨v, σ', H', J, rv, q⟩ := hs
      exact ⟨v, H', J.os, J.bare, J.base, J.hok, rv, q⟩
    | next =>
      obtain ⟨σ', H', J, q⟩ := hs
      exact ⟨V.non, H', J.os, J.bare, J.base, J.hok, rfl, q⟩
    | brk => exact hs.elim fun _ h => h.elim fun _ h => h.2.elim
    | cont => exact hs.elim fun _ h => h.elim fun _ h => h.2.elim
  · exact fun e s' hs => hs
end

section
variable {X : Cx} {k : Nat} {f : Addr} {fd : FuncData} {ps : List Str} {sp : Sp} {x : Str} {p pos : Pos} {e : Expr} {es : List Expr} {t : TA}
/-- a call of such a def -/
theorem run {pins : List (Addr × Obj)} {σ : L2.St} {H : Hp} {s : Shared} {Q : VK} {us : List Value} {vs : List V} (F : Fn X.prog X.w X.K X.mg X.base k f fd ps sp) (hg : Free X.A) (hr : Room k X.A)
    (hb : L2.Binds X.K fd ps []) (I : Inv X pins σ H s) (r : Vals vs us) (h : sp vs H Q E0) : wpAny (model X.prog X.w) X.A (call (.ref f) us) (EP X pins σ Q) X.xe s := by
  have hl : (us ++ []).length = ps.length := by
    rw [List.append_nil, ← r.length]
    exact F.len _ _ _ _ h
  have bt := hb s us I.kIn hl
  rw [List.append_nil] at bt
  apply wpAny_call
  apply codeAny_mono (F.run X.A X.stack s H ⟨us, []⟩ us vs Q E0 hg hr I.env0 bt r h)
  intro r s' hq
  match r, hq with
  | .ok (.ret u), hq => exact I.after hq
  | .ok .next, hq => exact False.elim hq
  | .ok .brk, hq => exact False.elim hq
  | .ok .cont, hq => exact False.elim hq
  | .error e, hq => exact False.elim hq
def tGo (sp : Sp) (t : TA) : TE := fun σ H Q => t σ H fun vs H1 => sp vs H1 Q E0
theorem pe_go (F : Fn X.prog X.w X.K X.mg X.base k f fd ps sp) (hfree : Free X.A) (hr : Room k X.A) (hg : Gl X x) (hm : X.mg x = some (.ref f)) (hk : PySem.W.keepIn X.K (.ref f) = true) (hb : L2.Binds X.K fd ps [])
    (ha : PA X (e :: es) t) (hdb : (x == ("__debug__" : Str)) = false := by decide) (he : starEach (e :: es) X.env = (false, eval e X.env) :: starEach es X.env := by rfl)
    (hpl : (backTo pos (starEach es X.env)).any (·.1) = false := by rfl) : PE X (.Call (.Name x p) (e :: es) [] pos) (tGo sp t) := by
  constructor
  intro pins s σ H Q I h
  apply wpAny_Call_Name_kw (ld_glob I hg hm _ hdb)
  apply PySem.W.callWith_K (h₀ := X.base) I.ok.mod.kin hk _ he hpl
  apply thn (ha.run pos pins s σ H _ I h)
  rintro us s1 ⟨vs, H1, I1, r, q⟩
  exact ⟨I1.kIn, run F hfree hr hb I1 r q⟩
theorem pe_go0 (F : Fn X.prog X.w X.K X.mg X.base k f fd ps sp) (hfree : Free X.A) (hr : Room k X.A) (hg : Gl X x) (hm : X.mg x = some (.ref f)) (hk : PySem.W.keepIn X.K (.ref f) = true) (hb : L2.Binds X.K fd ps [])
    (hdb : (x == ("__debug__" : Str)) = false := by decide) : PE X (.Call (.Name x p) [] [] pos) (tGo sp tNil) := by
  constructor
  intro pins s σ H Q I h
  apply wpAny_Call_Name_kw (ld_glob I hg hm _ hdb)
  exact PySem.W.callWith_K0 I.kIn hk (run (us := []) F hfree hr hb I .nil h)

/-! ### repr of data -/
def rRepr (K : PySem.W.Frag) : List V → Hp → VK → Prop := fun xs H Q => ∃ (x : V) (d : PyData), xs = [x] ∧ Dp K H x d ∧ d.showable = true ∧ d.hasDict = false ∧ d.depth ≤ 40 ∧ d.shown.length ≤ sizeLine ∧
  Q (.str d.shown) H
theorem call_repr (hfree : Free X.A) (hr : Room k X.A) : CallR X (.builtin "repr") (rRepr X.K) := by
  intro pins s σ H xs us Q I r h
  obtain ⟨x, d, rfl, hd, hs, hn, hde, hz, q⟩ := h
  have hu := hr.units
  cases r with
  | cons rx rn =>
    cases rn
    rename_i u
    obtain ⟨as, rd⟩ := Dp.reads I d x u hd rx
    have fin : ∀ (a : Addr), u = .ref a → wpAny (model X.prog X.w) X.A (call (.builtin "repr") [u]) (EP X pins σ Q) X.xe s := by
      rintro a rfl
      apply repr_of_reads' rd hs (PyData.noDict_hsm hn) hfree (by omega) (fun _ _ e => e) _ hz
      intro h' u tk hk
      exact ⟨.str _, H, I.kept hk, ⟨_, rfl⟩, q⟩
    cases hd with
    | non =>
      cases rx
      exact P.repr_of_none ⟨.str _, H, I.tok _, ⟨_, rfl⟩, q⟩
    | bl b =>
      cases rx
      exact P.repr_of_bool ⟨.str _, H, I.tok _, ⟨_, rfl⟩, q⟩
    | int i =>
      obtain ⟨tk, rfl⟩ := rx
      have hi : i.natAbs.log2 < 1920 := of_decide_eq_true (by simpa [PyData.showable] using hs)
      exact P.repr_of_int hi ⟨.str _, H, I.tok _, ⟨_, rfl⟩, q⟩
    | str y =>
      obtain ⟨tk, rfl⟩ := rx
      exact P.repr_of_str ⟨.str _, H, I.tok _, ⟨_, rfl⟩, q⟩ hz
    | lst => exact fin _ rx
    | tup => exact fin _ rx
end
end Gd

set_option maxRecDepth 100000
set_option maxHeartbeats 4000000
namespace Dl
open PySem PySem.Spec PyProof.Rows L2 Gd
open Evl (Ex Ex.refl Ex.trans Ex.new ex_l ex_t sq_of st_of fresh_back)

/-! ### data of one's own: besides what the hand layer knows an empty dict, and errors that are kept as values -/
/-- an error of the class at C, its fields named fs, their values ds, written as data -/
def errD (C : Addr) (fs : List Str) (ds : List PyData) : PyData := .dict [(.int (C : Nat), .list (fs.map .str)), (.none, .list ds)]
mutual
inductive Da (K : PySem.W.Frag) (H : Hp) : V → PyData → Prop
  | non : Da K H .non .none
  | bl (q : Bool) : Da K H (.bl q) (.bool q)
  | int (q : Int) : Da K H (.int q) (.int q)
  | str (q : Str) : Da K H (.str q) (.str q)
  | lst {a : Addr} {vs : List V} {rows : List PyData} (s : SqL K H a vs) (m : DaAll K H vs rows) : Da K H (.ref a) (.list rows)
  | tup {a : Addr} {vs : List V} {rows : List PyData} (s : SqT K H a vs) (m : DaAll K H vs rows) : Da K H (.ref a) (.tuple rows)
  | emp {a : Addr} (s : H a = some (.dK [])) : Da K H (.ref a) (.dict [])
  | er0 {a C : Addr} (s : H a = some (exo a C none)) : Da K H (.ref a) (.dict [(.int (C : Nat), .list (([] : List Str).map .str)), (.none, .list [])])
  | err {a C dx : Addr} {fs : List Str} {vs : List V} {rows : List PyData} (s : H a = some (exo a C (some dx))) (t : H dx = some (exd dx (fs.zip vs))) (l : fs.length = vs.length) (m : DaAll K H vs rows) :
      Da K H (.ref a) (.dict [(.int (C : Nat), .list (fs.map .str)), (.none, .list rows)])
inductive DaAll (K : PySem.W.Frag) (H : Hp) : List V → List PyData → Prop
  | nil : DaAll K H [] []
  | cons {v : V} {vs : List V} {d : PyData} {rows : List PyData} (h : Da K H v d) (t : DaAll K H vs rows) : DaAll K H (v :: vs) (d :: rows)
end
section
variable {K : PySem.W.Frag} {H0 H1 : Hp}
mutual
theorem dp_ex (e : Ex H0 H1) {d : PyData} {v : V} : Da K H0 v d → Da K H1 v d
  | .non => .non
  | .bl _ => .bl _
  | .int _ => .int _
  | .str _ => .str _
  | .lst s m => .lst (ex_l e s) (dps_ex e m)
  | .tup s m => .tup (ex_t e s) (dps_ex e m)
  | .emp s => .emp (e _ _ s)
  | .er0 s => .er0 (e _ _ s)
  | .err s t l m => .err (e _ _ s) (e _ _ t) l (dps_ex e m)
theorem dps_ex (e : Ex H0 H1) {ds : List PyData} {vs : List V} : DaAll K H0 vs ds → DaAll K H1 vs ds
  | .nil => .nil
  | .cons h t => .cons (dp_ex e h) (dps_ex e t)
end
/-! where no dict stands in it, it is the hand layer's -/
mutual
theorem da_plain {H : Hp} {d : PyData} {v : V} : Da K H v d → d.hasDict = false → L2.Dp K H v d
  | .non, _ => .non
  | .bl _, _ => .bl _
  | .int _, _ => .int _
  | .str _, _ => .str _
  | .lst s m, h => .lst s (das_plain m (by simpa [PyData.hasDict] using h))
  | .tup s m, h => .tup s (das_plain m (by simpa [PyData.hasDict] using h))
  | .emp _, h => by simp [PyData.hasDict] at h
  | .er0 _, h => by simp [PyData.hasDict] at h
  | .err _ _ _ _, h => by simp [PyData.hasDict] at h
theorem das_plain {H : Hp} {ds : List PyData} {vs : List V} : DaAll K H vs ds → PyData.hasDictAll ds = false → L2.DpAll K H vs ds
  | .nil, _ => .nil
  | .cons h t, q => by
    simp only [PyData.hasDictAll, Bool.or_eq_false_iff] at q
    exact .cons (da_plain h q.1) (das_plain t q.2)
end
mutual
theorem noDict_lay : ∀ d : PyData, d.canLay0 = true → d.hasDict = false
  | .none, _ => rfl
  | .bool _, _ => rfl
  | .int _, _ => rfl
  | .str _, _ => rfl
  | .list ds, h => by
    simp only [PyData.hasDict]
    exact noDict_layAll ds (by simpa [PyData.canLay0] using h)
  | .tuple ds, h => by
    simp only [PyData.hasDict]
    exact noDict_layAll ds (by simpa [PyData.canLay0] using h)
  | .dict _, h => by simp [PyData.canLay0] at h
theorem noDict_layAll : ∀ ds : List PyData, PyData.canLayAll0 ds = true → PyData.hasDictAll ds = false
  | [], _ => rfl
  | d :: ds, h => by
    simp only [PyData.canLayAll0, Bool.and_eq_true] at h
    simp only [PyData.hasDictAll, Bool.or_eq_false_iff]
    exact ⟨noDict_lay d h.1, noDict_layAll ds h.2⟩
end
theorem noDict_shaped {d : PyData} (h : SeqAt.shaped d = true) : d.hasDict = false := by
  unfold SeqAt.shaped at h
  rw [Bool.and_eq_true] at h
  exact noDict_lay d h.1
theorem da_shaped {H : Hp} {d : PyData} {v : V} (k : Da K H v d) (h : SeqAt.shaped d = true) : L2.Dp K H v d := da_plain k (noDict_shaped h)
end
end Dl

set_option maxRecDepth 100000
set_option maxHeartbeats 4000000
namespace Dl
open PySem PySem.Spec PyProof.Rows L2 Gd
open Evl (Ex Ex.refl Ex.trans Ex.new ex_l ex_t sq_of st_of fresh_back)

/-! ### the pen: a list that a law changes by itself; all else that is read stays -/
structure Pn where
  p : Addr
  g : Addr
  ns : List Int
structure PenAt (K : PySem.W.Frag) (H : Hp) (q : Pn) : Prop where
  cells : ∃ seat left : Int, H q.p = some (.lst [.ref q.g, .int seat, .int left])
  given : SqL K H q.g (q.ns.map V.int)
  ne : q.g ≠ q.p
  few : q.ns.length ≤ 63
theorem PenAt.some {K : PySem.W.Frag} {H : Hp} {q : Pn} (h : PenAt K H q) : H q.p ≠ none := by
  obtain ⟨_, _, e⟩ := h.cells
  rw [e]
  exact fun z => by cases z
theorem PenAt.ex {K : PySem.W.Frag} {H H' : Hp} {q : Pn} (h : PenAt K H q) (e : Ex H H') : PenAt K H' q := by
  obtain ⟨a, b, h1⟩ := h.cells
  exact ⟨⟨a, b, e _ _ h1⟩, ex_l e h.given, h.ne, h.few⟩

/-- all but the pen stays -/
def Off (π : Option Pn) (H1 H2 : Hp) : Prop := ∀ a o, (∀ q, π = some q → a ≠ q.p) → H1 a = some o → H2 a = some o
theorem Off.of {π : Option Pn} {H1 H2 : Hp} (e : Ex H1 H2) : Off π H1 H2 := fun a o _ h => e a o h
theorem Off.trans {π : Option Pn} {H1 H2 H3 : Hp} (a : Off π H1 H2) (b : Off π H2 H3) : Off π H1 H3 := fun x o n h => b x o n (a x o n h)

/-- the core H0 of what is known, the heap H1 -/
structure Okk (K : PySem.W.Frag) (π : Option Pn) (H0 H1 : Hp) : Prop where
  ex : Ex H0 H1
  pen : ∀ q, π = some q → H0 q.p = none ∧ PenAt K H1 q
/-- the core grows by new objects alone -/
structure Stp (K : PySem.W.Frag) (π : Option Pn) (H0 H1 H0' H2 : Hp) : Prop where
  ex : Ex H0 H0'
  gr : ∀ a, H0' a ≠ none → H0 a ≠ none ∨ H1 a = none
  ex2 : Ex H0' H2
  off : Off π H1 H2
  pen : ∀ q, π = some q → PenAt K H2 q

section
variable {K : PySem.W.Frag} {π : Option Pn} {H0 H1 H2 H3 H0' H0'' : Hp}
theorem Okk.refl (h : π = none) : Okk K π H1 H1 := ⟨Ex.refl _, fun p e => by rw [h] at e; cases e⟩
theorem Okk.stp (o : Okk K π H0 H1) : Stp K π H0 H1 H0 H1 := ⟨Ex.refl _, fun a h => .inl h, o.ex, fun _ _ _ h => h, fun p e => (o.pen p e).2⟩
theorem Stp.okk (s : Stp K π H0 H1 H0' H2) (o : Okk K π H0 H1) : Okk K π H0' H2 := by
  refine ⟨s.ex2, fun q e => ⟨?_, s.pen q e⟩⟩
  obtain ⟨h1, h2⟩ := o.pen q e
  apply Classical.byContradiction
  intro hn
  rcases s.gr q.p hn with z | z
  · exact z h1
  · exact h2.some z
/-- an address of the heap that is no part of the core is none of it later -/
theorem Stp.out (s : Stp K π H0 H1 H0' H2) {a : Addr} (h0 : H0 a = none) (h1 : H1 a ≠ none) : H0' a = none := by
  apply Classical.byContradiction
  intro hn
  rcases s.gr a hn with z | z
  · exact z h0
  · exact h1 z
theorem Stp.trans (a : Stp K π H0 H1 H0' H2) (b : Stp K π H0' H2 H0'' H3) (o : Okk K π H0 H1) : Stp K π H0 H1 H0'' H3 := by
  refine ⟨a.ex.trans b.ex, fun x h => ?_, b.ex2, a.off.trans b.off, b.pen⟩
  rcases b.gr x h with z | z
  · exact a.gr x z
  · cases e : H1 x with
    | none => exact .inr rfl
    | some ob =>
      by_cases hp : ∃ q, π = some q ∧ x = q.p
      · obtain ⟨q, hq, rfl⟩ := hp
        exact absurd z (a.pen q hq).some
      · rw [a.off x ob (fun q hq ex => hp ⟨q, hq, ex⟩) e] at z
        cases z
/-- a new object joins the core -/
theorem Okk.new (o : Okk K π H0 H1) {p : Addr} {ob : HO} (hp : H1 p = none) (e : Ex H1 H2) (h2 : H2 p = some ob) : Stp K π H0 H1 (upd H0 p ob) H2 := by
  have h0 : H0 p = none := fresh_back o.ex hp
  refine ⟨Ex.new h0, fun a ha => ?_, fun a u ha => ?_, Off.of e, fun q hq => (o.pen q hq).2.ex e⟩
  · by_cases ea : a = p
    · subst ea
      exact .inr hp
    · rw [upd_ne ea] at ha
      exact .inl ha
  · by_cases ea : a = p
    · subst ea
      rw [upd_same] at ha
      cases ha
      exact h2
    · rw [upd_ne ea] at ha
      exact e _ _ (o.ex _ _ ha)
theorem Okk.more (o : Okk K π H0 H1) (e : Ex H1 H2) : Stp K π H0 H1 H0 H2 :=
  ⟨Ex.refl _, fun a h => .inl h, o.ex.trans e, Off.of e, fun p q => (o.pen p q).2.ex e⟩

/-! ### what a reading evaluates to, as data -/
abbrev DP := PyData → Prop
def PostV (K : PySem.W.Frag) (π : Option Pn) (H0 H1 : Hp) (Φ : DP) (Q : VK) : Prop := ∀ v d H0' H2, Φ d → Stp K π H0 H1 H0' H2 → Da K H0' v d → Q v H2
def EvD (K : PySem.W.Frag) (π : Option Pn) (te : TE) (σ : L2.St) (H0 : Hp) (Φ : DP) : Prop := ∀ H1, Okk K π H0 H1 → ∀ Q, PostV K π H0 H1 Φ Q → te σ H1 Q
def EvB (K : PySem.W.Frag) (π : Option Pn) (tt : TT) (σ : L2.St) (H0 : Hp) (Φ : Bool → Prop) : Prop := ∀ H1, Okk K π H0 H1 → ∀ Q : Bool → Hp → Prop, (∀ b H0' H2, Φ b → Stp K π H0 H1 H0' H2 → Q b H2) → tt σ H1 Q
def EvL (K : PySem.W.Frag) (π : Option Pn) (ta : TA) (σ : L2.St) (H0 : Hp) (Φ : List PyData → Prop) : Prop :=
  ∀ H1, Okk K π H0 H1 → ∀ Q : List V → Hp → Prop, (∀ vs ds H0' H2, Φ ds → Stp K π H0 H1 H0' H2 → DaAll K H0' vs ds → Q vs H2) → ta σ H1 Q
def EvO (K : PySem.W.Frag) (π : Option Pn) (to : TO) (σ : L2.St) (H0 : Hp) (o : Option Int) : Prop :=
  ∀ H1, Okk K π H0 H1 → ∀ Q : Option Int → Hp → Prop, (∀ H0' H2, Stp K π H0 H1 H0' H2 → Q o H2) → to σ H1 Q

/-- two cores of one heap joined -/
def joined (H H' : Hp) : Hp := fun a => match H a with
  | some o => some o
  | none => H' a
theorem joined_l (a : Ex H0 H2) : Ex H0 (joined H0 H0') := fun x o h => by
  unfold joined
  rw [h]
theorem joined_r (a : Ex H0 H2) (b : Ex H0' H2) : Ex H0' (joined H0 H0') := fun x o h => by
  unfold joined
  cases e : H0 x with
  | none => exact h
  | some u =>
    have e1 := a _ _ e
    rw [b _ _ h] at e1
    exact e1.symm
theorem joined_ex (a : Ex H0 H2) (b : Ex H0' H2) : Ex (joined H0 H0') H2 := fun x o h => by
  unfold joined at h
  cases e : H0 x with
  | none =>
    rw [e] at h
    exact b _ _ h
  | some u =>
    rw [e] at h
    exact a _ _ (e.trans h)
theorem okk_less (e : Ex H0 H0') (o : Okk K π H0' H1) : Okk K π H0 H1 := ⟨e.trans o.ex, fun p h => ⟨by
  obtain ⟨h1, _⟩ := o.pen p h
  exact fresh_back e h1, (o.pen p h).2⟩⟩
/-- what was done from a smaller core is done from a greater one -/
theorem stp_more (e : Ex H0 H0') (o : Okk K π H0' H1) (s : Stp K π H0 H1 H0'' H2) : ∃ N, Ex H0'' N ∧ Stp K π H0' H1 N H2 := by
  have e' : Ex H0' H2 := fun x u h => s.off x u (fun q hq ex => by
    subst ex
    rw [(o.pen q hq).1] at h
    cases h) (o.ex _ _ h)
  refine ⟨joined H0' H0'', joined_r e' s.ex2, joined_l e', fun a ha => ?_, joined_ex e' s.ex2, s.off, s.pen⟩
  unfold joined at ha
  cases q : H0' a with
  | some u => exact .inl (fun z => by cases z)
  | none =>
    rw [q] at ha
    rcases s.gr a ha with z | z
    · cases q0 : H0 a with
      | none => exact absurd q0 z
      | some u =>
        rw [e _ _ q0] at q
        cases q
    · exact .inr z
end

section
variable {K : PySem.W.Frag} {π : Option Pn} {σ : L2.St} {H0 H0' H1 : Hp} {ta tb te : TE} {tt tu : TT} {tl : TA} {Φ Ψ : DP} {i : Nat}
theorem EvD.mono (e : Ex H0 H0') (h : EvD K π te σ H0 Φ) : EvD K π te σ H0' Φ := fun H1 o Q q => h H1 (okk_less e o) Q fun v d N H2 hd s hv => by
  obtain ⟨M, hM, s'⟩ := stp_more e o s
  exact q v d M H2 hd s' (dp_ex hM hv)
theorem EvB.mono {Φ : Bool → Prop} (e : Ex H0 H0') (h : EvB K π tt σ H0 Φ) : EvB K π tt σ H0' Φ := fun H1 o Q q => h H1 (okk_less e o) Q fun b N H2 hd s => by
  obtain ⟨M, hM, s'⟩ := stp_more e o s
  exact q b M H2 hd s'
theorem EvL.mono {Φ : List PyData → Prop} (e : Ex H0 H0') (h : EvL K π tl σ H0 Φ) : EvL K π tl σ H0' Φ := fun H1 o Q q => h H1 (okk_less e o) Q fun v d N H2 hd s hv => by
  obtain ⟨M, hM, s'⟩ := stp_more e o s
  exact q v d M H2 hd s' (dps_ex hM hv)
theorem EvO.mono {to : TO} {x : Option Int} (e : Ex H0 H0') (h : EvO K π to σ H0 x) : EvO K π to σ H0' x := fun H1 o Q q => h H1 (okk_less e o) Q fun N H2 s => by
  obtain ⟨M, hM, s'⟩ := stp_more e o s
  exact q M H2 s'
theorem EvD.imp (h : EvD K π te σ H0 Φ) (k : ∀ d, Φ d → Ψ d) : EvD K π te σ H0 Ψ := fun H1 o Q q => h H1 o Q fun v d N H2 hd => q v d N H2 (k d hd)
theorem EvB.imp {Φ Ψ : Bool → Prop} (h : EvB K π tt σ H0 Φ) (k : ∀ d, Φ d → Ψ d) : EvB K π tt σ H0 Ψ := fun H1 o Q q => h H1 o Q fun b N H2 hd => q b N H2 (k b hd)
theorem EvL.imp {Φ Ψ : List PyData → Prop} (h : EvL K π tl σ H0 Φ) (k : ∀ d, Φ d → Ψ d) : EvL K π tl σ H0 Ψ := fun H1 o Q q => h H1 o Q fun v d N H2 hd => q v d N H2 (k d hd)

theorem ed_var {v : V} {d : PyData} (h : σ[i]? = some (some v)) (hd : Da K H0 v d) : EvD K π (tVar i) σ H0 (· = d) := fun H1 o Q q => ⟨v, h, q v d H0 H1 rfl o.stp hd⟩
theorem ed_c {v : V} {d : PyData} (hd : Da K H0 v d) : EvD K π (tC v) σ H0 (· = d) := fun H1 o Q q => q v d H0 H1 rfl o.stp hd
theorem ed_i {i : Int} : EvD K π (tC (.int i)) σ H0 (· = .int i) := ed_c (.int i)
theorem ed_s {z : Str} : EvD K π (tC (.str z)) σ H0 (· = .str z) := ed_c (.str z)
theorem ed_n : EvD K π (tC .non) σ H0 (· = .none) := ed_c .non
theorem ed_bl {b : Bool} : EvD K π (tC (.bl b)) σ H0 (· = .bool b) := ed_c (.bl b)

/-- an operation by data -/
def OpD (K : PySem.W.Frag) (π : Option Pn) (r : R2) (a b : PyData) (Φ : DP) : Prop := ∀ x y H0 H1, Da K H0 x a → Da K H0 y b → Okk K π H0 H1 → ∀ Q, PostV K π H0 H1 Φ Q → r x y H1 Q
theorem ed_op {r : R2} {Φa Φb : DP} (ha : EvD K π ta σ H0 Φa) (hb : EvD K π tb σ H0 Φb) (hr : ∀ a b, Φa a → Φb b → OpD K π r a b Φ) : EvD K π (tOp r ta tb) σ H0 Φ := fun H1 o Q q =>
  ha H1 o _ fun x a N H2 pa s1 ka => hb.mono s1.ex H2 (s1.okk o) _ fun y b N2 H3 pb s2 kb =>
    hr a b pa pb x y N2 H3 (dp_ex s2.ex ka) kb (s2.okk (s1.okk o)) Q fun v d N3 H4 hd s3 hv => q v d N3 H4 hd ((s1.trans s2 o).trans s3 o) hv
theorem ed_op' {r : R2} {a b : PyData} (ha : EvD K π ta σ H0 (· = a)) (hb : EvD K π tb σ H0 (· = b)) (hr : OpD K π r a b Φ) : EvD K π (tOp r ta tb) σ H0 Φ :=
  ed_op ha hb fun _ _ e1 e2 => by rw [e1, e2]; exact hr
theorem dp_int {x : V} {i : Int} (h : Da K H0 x (.int i)) : x = .int i := by cases h; rfl
theorem dp_bl {x : V} {i : Bool} (h : Da K H0 x (.bool i)) : x = .bl i := by cases h; rfl
theorem dp_str {x : V} {i : Str} (h : Da K H0 x (.str i)) : x = .str i := by cases h; rfl
theorem dp_non {x : V} (h : Da K H0 x .none) : x = .non := by cases h; rfl
/-- an operation that hands back a scalar and changes nothing -/
theorem opd_val {r : R2} {a b d : PyData} {v : V} (hv : ∀ H, Da K H v d) (h : ∀ x y H1 Q, Da K H1 x a → Da K H1 y b → Q v H1 → r x y H1 Q) : OpD K π r a b (· = d) := fun x y H0 H1 hx hy o Q q =>
  h x y H1 Q (dp_ex o.ex hx) (dp_ex o.ex hy) (q v d H0 H1 rfl o.stp (hv H0))
theorem od_I0 {g : Int → Int → V} {i j : Int} {d : PyData} (hv : ∀ H, Da K H (g i j) d) : OpD K π (rI0 g) (.int i) (.int j) (· = d) :=
  opd_val hv fun x y H Q hx hy q => ⟨i, j, dp_int hx, dp_int hy, q⟩
theorem od_I {C : Int → Int → Prop} {g : Int → Int → V} {i j : Int} {d : PyData} (hc : C i j) (hv : ∀ H, Da K H (g i j) d) : OpD K π (rI C g) (.int i) (.int j) (· = d) :=
  opd_val hv fun x y H Q hx hy q => ⟨i, j, dp_int hx, dp_int hy, hc, q⟩
theorem od_add {i j : Int} : OpD K π (rI0 fun i j => .int (i + j)) (.int i) (.int j) (· = .int (i + j)) := od_I0 fun _ => .int _
theorem od_sub {i j : Int} : OpD K π (rI0 fun i j => .int (i - j)) (.int i) (.int j) (· = .int (i - j)) := od_I0 fun _ => .int _
theorem od_mul {i j : Int} (h : CMul i j) : OpD K π (rI CMul fun i j => .int (i * j)) (.int i) (.int j) (· = .int (i * j)) := od_I h fun _ => .int _
theorem od_lt {i j : Int} : OpD K π (rI0 fun i j => .bl (decide (i < j))) (.int i) (.int j) (· = .bool (decide (i < j))) := od_I0 fun _ => .bl _
theorem od_le {i j : Int} : OpD K π (rI0 fun i j => .bl (decide (i ≤ j))) (.int i) (.int j) (· = .bool (decide (i ≤ j))) := od_I0 fun _ => .bl _
theorem od_gt {i j : Int} : OpD K π (rI0 fun i j => .bl (decide (j < i))) (.int i) (.int j) (· = .bool (decide (j < i))) := od_I0 fun _ => .bl _
theorem od_ge {i j : Int} : OpD K π (rI0 fun i j => .bl (decide (j ≤ i))) (.int i) (.int j) (· = .bool (decide (j ≤ i))) := od_I0 fun _ => .bl _
/-- texts compared -/
theorem od_neS {a b : Str} : OpD K π rNe (.str a) (.str b) (· = .bool (!decide (a = b))) := opd_val (v := .bl (!decide (a = b))) (fun _ => .bl _) fun x y H Q hx hy q => by
  rw [dp_str hx, dp_str hy]
  have e : (!decide (V.str a = V.str b)) = (!decide (a = b)) := by
    by_cases h : a = b
    · subst h; simp
    · simp [h]
  exact ⟨rfl, by rw [e]; exact q⟩
theorem od_eqS {a b : Str} : OpD K π rEq (.str a) (.str b) (· = .bool (decide (a = b))) := opd_val (v := .bl (decide (a = b))) (fun _ => .bl _) fun x y H Q hx hy q => by
  rw [dp_str hx, dp_str hy]
  have e : (decide (V.str a = V.str b)) = (decide (a = b)) := by
    by_cases h : a = b
    · subst h; simp
    · simp [h]
  exact ⟨rfl, by rw [e]; exact q⟩
theorem od_eqI {a b : Int} : OpD K π rEq (.int a) (.int b) (· = .bool (decide (a = b))) := opd_val (v := .bl (decide (a = b))) (fun _ => .bl _) fun x y H Q hx hy q => by
  rw [dp_int hx, dp_int hy]
  have e : (decide (V.int a = V.int b)) = (decide (a = b)) := by
    by_cases h : a = b
    · subst h; simp
    · simp [h]
  exact ⟨rfl, by rw [e]; exact q⟩
/-- data compared at any depth -/
theorem od_eqD {a b : PyData} (ha : SeqAt.shaped a = true) (hb : SeqAt.shaped b = true) : OpD K π (rEqD K) a b (· = .bool (PyData.eqv a b)) :=
  opd_val (v := .bl (PyData.eqv a b)) (fun _ => .bl _) fun x y H Q hx hy q => ⟨a, b, da_shaped hx ha, da_shaped hy hb, ha, hb, q⟩
theorem od_neD {a b : PyData} (ha : SeqAt.shaped a = true) (hb : SeqAt.shaped b = true) : OpD K π (rNeD K) a b (· = .bool (!PyData.eqv a b)) :=
  opd_val (v := .bl (!PyData.eqv a b)) (fun _ => .bl _) fun x y H Q hx hy q => ⟨a, b, da_shaped hx ha, da_shaped hy hb, ha, hb, q⟩

/-! ### arguments, displays -/
theorem el_nil : EvL K π tNil σ H0 (· = []) := fun H1 o Q q => q [] [] H0 H1 rfl o.stp .nil
theorem el_cons {Φl Ψl : List PyData → Prop} (h : EvD K π te σ H0 Φ) (ht : EvL K π tl σ H0 Φl) (k : ∀ d ds, Φ d → Φl ds → Ψl (d :: ds)) : EvL K π (tCons te tl) σ H0 Ψl := fun H1 o Q q =>
  h H1 o _ fun x a N H2 pa s1 ka => ht.mono s1.ex H2 (s1.okk o) _ fun vs ds N2 H3 pb s2 kb => q _ _ N2 H3 (k a ds pa pb) (s1.trans s2 o) (.cons (dp_ex s2.ex ka) kb)
theorem el_c {d : PyData} {ds : List PyData} (h : EvD K π te σ H0 (· = d)) (ht : EvL K π tl σ H0 (· = ds)) : EvL K π (tCons te tl) σ H0 (· = d :: ds) := el_cons h ht fun _ _ e1 e2 => by rw [e1, e2]
theorem dps_len : ∀ {ds : List PyData} {vs : List V}, DaAll K H0 vs ds → vs.length = ds.length
  | [], _, h => by cases h; rfl
  | _ :: _, _, h => by
    cases h with
    | cons h1 h2 => rw [List.length_cons, List.length_cons, dps_len h2]
theorem ed_tup {Φl : List PyData → Prop} (h : EvL K π tl σ H0 Φl) (hz : ∀ ds, Φl ds → ds.length ≤ 100000) (k : ∀ ds, Φl ds → Φ (.tuple ds)) : EvD K π (tTup tl) σ H0 Φ := fun H1 o Q q =>
  h H1 o _ fun vs ds N H2 pd s1 kd => ⟨Evl.sz_of (by rw [dps_len kd]; exact hz ds pd), fun p hp => by
    have s2 : Stp K π N H2 (upd N p (.tup vs)) (upd H2 p (.tup vs)) := (s1.okk o).new hp (Ex.new hp) upd_same
    exact q _ (.tuple ds) _ _ (k ds pd) (s1.trans s2 o) (.tup (st_of upd_same) (dps_ex s2.ex kd))⟩
theorem ed_t {ds : List PyData} (h : EvL K π tl σ H0 (· = ds)) (hz : ds.length ≤ 100000 := by first | decide | (simp only [List.length_cons, List.length_nil]; decide)) : EvD K π (tTup tl) σ H0 (· = .tuple ds) := ed_tup h (fun _ e => by rw [e]; exact hz) fun _ e => by rw [e]
theorem ed_lst {Φl : List PyData → Prop} (h : EvL K π tl σ H0 Φl) (hz : ∀ ds, Φl ds → ds.length ≤ 100000) (k : ∀ ds, Φl ds → Φ (.list ds)) : EvD K π (tLst tl) σ H0 Φ := fun H1 o Q q =>
  h H1 o _ fun vs ds N H2 pd s1 kd => ⟨Evl.sz_of (by rw [dps_len kd]; exact hz ds pd), fun p hp => by
    have s2 : Stp K π N H2 (upd N p (.lst vs)) (upd H2 p (.lst vs)) := (s1.okk o).new hp (Ex.new hp) upd_same
    exact q _ (.list ds) _ _ (k ds pd) (s1.trans s2 o) (.lst (sq_of upd_same) (dps_ex s2.ex kd))⟩
theorem ed_l {ds : List PyData} (h : EvL K π tl σ H0 (· = ds)) (hz : ds.length ≤ 100000 := by first | decide | (simp only [List.length_cons, List.length_nil]; decide)) : EvD K π (tLst tl) σ H0 (· = .list ds) := ed_lst h (fun _ e => by rw [e]; exact hz) fun _ e => by rw [e]

/-! ### tests -/
theorem eb_test {Φb : Bool → Prop} (h : EvD K π te σ H0 Φ) (k : ∀ d, Φ d → ∃ b, d = .bool b ∧ Φb b) : EvB K π (tTest te) σ H0 Φb := fun H1 o Q q => h H1 o _ fun v d N H2 hd s kd => by
  obtain ⟨b, rfl, hb⟩ := k d hd
  exact ⟨b, dp_bl kd, q b N H2 hb s⟩
theorem eb_B {Φb : Bool → Prop} (h : EvD K π te σ H0 Φ) (k : ∀ d, Φ d → ∃ b, d = .bool b ∧ Φb b) : EvB K π (tB te) σ H0 Φb := fun H1 o Q q => h H1 o _ fun v d N H2 hd s kd => by
  obtain ⟨b, rfl, hb⟩ := k d hd
  exact ⟨b, dp_bl kd, q b N H2 hb s⟩
theorem eb_t {b : Bool} (h : EvD K π te σ H0 (· = .bool b)) : EvB K π (tTest te) σ H0 (· = b) := eb_test h fun d e => ⟨b, e, rfl⟩
theorem eb_b {b : Bool} (h : EvD K π te σ H0 (· = .bool b)) : EvB K π (tB te) σ H0 (· = b) := eb_B h fun d e => ⟨b, e, rfl⟩
theorem eb_yes : EvB K π tYes σ H0 (· = true) := fun H1 o Q q => q true H0 H1 rfl o.stp
theorem eb_and {Φa Φb Φc : Bool → Prop} (h1 : EvB K π tt σ H0 Φa) (h2 : Φa true → EvB K π tu σ H0 Φb) (k1 : Φa true → ∀ b, Φb b → Φc b) (k0 : Φa false → Φc false) : EvB K π (tAnd tt tu) σ H0 Φc := fun H1 o Q q => h1 H1 o _ fun a N H2 pa s => by
  cases a with
  | true => exact (h2 pa).mono s.ex H2 (s.okk o) _ fun b N2 H3 pb s2 => q b N2 H3 (k1 pa b pb) (s.trans s2 o)
  | false => exact q false N H2 (k0 pa) s
theorem eb_or {Φa Φb Φc : Bool → Prop} (h1 : EvB K π tt σ H0 Φa) (h2 : Φa false → EvB K π tu σ H0 Φb) (k1 : Φa false → ∀ b, Φb b → Φc b) (k0 : Φa true → Φc true) : EvB K π (tOr tt tu) σ H0 Φc := fun H1 o Q q => h1 H1 o _ fun a N H2 pa s => by
  cases a with
  | false => exact (h2 pa).mono s.ex H2 (s.okk o) _ fun b N2 H3 pb s2 => q b N2 H3 (k1 pa b pb) (s.trans s2 o)
  | true => exact q true N H2 (k0 pa) s
theorem eb_not {Φa : Bool → Prop} (h1 : EvB K π tt σ H0 Φa) : EvB K π (tNot tt) σ H0 (fun b => Φa (!b)) := fun H1 o Q q => h1 H1 o _ fun a N H2 pa s => q (!a) N H2 (by show Φa (!(!a)); rw [Bool.not_not]; exact pa) s
theorem eb_and' {a b : Bool} (h1 : EvB K π tt σ H0 (· = a)) (h2 : a = true → EvB K π tu σ H0 (· = b)) : EvB K π (tAnd tt tu) σ H0 (· = (a && b)) :=
  eb_and h1 (fun e => h2 e.symm) (fun e c ec => by rw [ec, ← e]; rfl) fun e => by rw [← e]; rfl
theorem eb_or' {a b : Bool} (h1 : EvB K π tt σ H0 (· = a)) (h2 : a = false → EvB K π tu σ H0 (· = b)) : EvB K π (tOr tt tu) σ H0 (· = (a || b)) :=
  eb_or h1 (fun e => h2 e.symm) (fun e c ec => by rw [ec, ← e]; rfl) fun e => by rw [← e]; rfl
theorem eb_not' {a : Bool} (h1 : EvB K π tt σ H0 (· = a)) : EvB K π (tNot tt) σ H0 (· = !a) := (eb_not h1).imp fun b e => by rw [← e, Bool.not_not]
theorem ed_if {Φb : Bool → Prop} (h : EvB K π tt σ H0 Φb) (h1 : Φb true → EvD K π ta σ H0 Φ) (h2 : Φb false → EvD K π tb σ H0 Φ) : EvD K π (tIf tt ta tb) σ H0 Φ := fun H1 o Q q => h H1 o _ fun b N H2 pb s => by
  cases b with
  | true => exact (h1 pb).mono s.ex H2 (s.okk o) _ fun v d N2 H3 pd s2 kd => q v d N2 H3 pd (s.trans s2 o) kd
  | false => exact (h2 pb).mono s.ex H2 (s.okk o) _ fun v d N2 H3 pd s2 kd => q v d N2 H3 pd (s.trans s2 o) kd
theorem ed_andV {a b : Bool} (h1 : EvD K π ta σ H0 (· = .bool a)) (h2 : a = true → EvD K π tb σ H0 (· = .bool b)) : EvD K π (tAndV ta tb) σ H0 (· = .bool (a && b)) := fun H1 o Q q => h1 H1 o _ fun v d N H2 pd s kd => by
  subst pd
  refine ⟨a, dp_bl kd, ?_⟩
  cases a with
  | true => exact (h2 rfl).mono s.ex H2 (s.okk o) _ fun v d N2 H3 pd s2 kd => q v d N2 H3 pd (s.trans s2 o) kd
  | false => exact q (.bl false) _ N H2 rfl s (.bl false)
theorem ed_orV {a b : Bool} (h1 : EvD K π ta σ H0 (· = .bool a)) (h2 : a = false → EvD K π tb σ H0 (· = .bool b)) : EvD K π (tOrV ta tb) σ H0 (· = .bool (a || b)) := fun H1 o Q q => h1 H1 o _ fun v d N H2 pd s kd => by
  subst pd
  refine ⟨a, dp_bl kd, ?_⟩
  cases a with
  | false => exact (h2 rfl).mono s.ex H2 (s.okk o) _ fun v d N2 H3 pd s2 kd => q v d N2 H3 pd (s.trans s2 o) kd
  | true => exact q (.bl true) _ N H2 rfl s (.bl true)
theorem ed_notV {a : Bool} (h1 : EvD K π ta σ H0 (· = .bool a)) : EvD K π (tNotV ta) σ H0 (· = .bool (!a)) := fun H1 o Q q => h1 H1 o _ fun v d N H2 pd s kd => by
  subst pd
  exact ⟨a, dp_bl kd, q (.bl (!a)) _ N H2 rfl s (.bl (!a))⟩
def notNone : PyData → Bool
  | .none => false
  | _ => true
theorem ed_notN (h1 : EvD K π ta σ H0 Φ) : EvD K π (tNotN ta) σ H0 (fun e => ∃ d, Φ d ∧ e = .bool (notNone d)) := fun H1 o Q q => h1 H1 o _ fun v d N H2 pd s kd => by
  refine q _ _ N H2 ⟨d, pd, rfl⟩ s ?_
  cases kd <;> exact .bl _
end
end Dl

set_option maxRecDepth 100000
set_option maxHeartbeats 4000000
/-! tuples further: t[::-1], t * k for every small k -/
namespace Dt
open PySem PySem.Spec PyProof.Rows L2
section
variable {prog : Program} {w : World} {A : Around} {E : Value → Shared → Prop} {s : Shared}
theorem rev_bounds (n : Nat) : Builtin.Slice.sliceAdjust none none (-1) (n : Int) = ((n : Int) - 1, -1) := by
  unfold Builtin.Slice.sliceAdjust
  simp
theorem rev_places (n : Nat) : Builtin.Slice.slicePlaces ((n : Int) - 1) (-1) (-1) = n := by
  unfold Builtin.Slice.slicePlaces
  show (if (n : Int) - 1 > -1 then ((n : Int) - 1 - -1 - 1) / 1 + 1 else 0).toNat = n
  rw [Int.ediv_one]
  split <;> omega
theorem rev_pick (xs : Array Value) : ((List.range xs.size).filterMap fun (k : Nat) => xs[((xs.size : Int) - 1 + (k : Int) * (-1)).toNat]?).toArray = xs.toList.reverse.toArray := by
  have e1 : (List.range xs.size).filterMap (fun (k : Nat) => xs[((xs.size : Int) - 1 + (k : Int) * (-1)).toNat]?) = ((List.range xs.size).map fun k => xs.size - 1 - k).filterMap (xs[·]?) := by
    rw [List.filterMap_map]
    refine congrArg (fun f => List.filterMap f (List.range xs.size)) (funext fun k => ?_)
    have : ((xs.size : Int) - 1 + (k : Int) * (-1)).toNat = xs.size - 1 - k := by omega
    rw [this]
    rfl
  rw [e1, PySem.W.krv_range, List.filterMap_reverse, PySem.W.krv_all]
theorem getItem_rev {t sl : Addr} {items : Array Value} {vs : Value} {Q : Value → Shared → Prop} (ht : IsTup s.heap t items) (hs : s.heap.IsSliceOf sl .none .none vs) (pv : IsPart vs (some (-1))) (hz : items.size ≤ sizeLine)
    (h : Q (.ref s.heap.objs.size) { s with heap := s.heap.push { cls := .type "tuple", data := .seq items.toList.reverse.toArray } }) : wpAny (model prog w) A (getItem (.ref t) (.ref sl)) Q E s := by
  have hok : sizeOk (.seq items.toList.reverse.toArray) := by
    show items.toList.reverse.toArray.size ≤ sizeLine
    rw [List.size_toArray, List.length_reverse, Array.length_toList]
    exact hz
  obtain ⟨os, hos, hcs, hds⟩ := id hs
  have hTs : s.TypeIs (.ref sl) "slice" := ⟨os, hos, hcs⟩
  unfold getItem
  try with_reducible refine wpAny_holding ?_
  first | refine wpAny_bind (wpAny_pure ?_) | skip
  apply wpAny_bind
  apply wpAny_sequenceKey ht.typeIs (by decide)
  apply wpAny_bind
  apply wpAny_callSpecial?_slot (name := Str.ofString "__getitem__") ht.typeIs PyProof.Rows.slot_tuple_getitem
  refine wpAny_call_entry PyProof.Rows.slot_tuple_getitem ht.typeIs entry_tuple_getitem ?_ (args_tuple_getitem _ _)
  show wpAny _ _ (Builtin.Tuple.tupleItemsOf (.ref t) >>= _) _ _ s
  apply wpAny_bind
  apply tupleItemsOf_ ht
  apply wpAny_bind
  apply wpAny_typeOf hTs
  rw [if_pos (by decide)]
  apply wpAny_bind
  show wpAny _ _ (Builtin.Slice.sliceApplied (.ref sl) (pure (items.size : Int))) _ _ s
  unfold Builtin.Slice.sliceApplied Builtin.Slice.sliceFields
  refine wpAny_bind (wpAny_bind (wpAny_field hos hds (x := .none) rfl (wpAny_bind (wpAny_field hos hds (x := .none) rfl (wpAny_bind (wpAny_field hos hds (x := vs) rfl (wpAny_pure ?_)))))))
  apply wpAny_bind
  apply HT.slicePart_ pv
  show wpAny _ _ (if ((-1 : Int) == 0) = true then _ else _) _ _ s
  rw [if_neg (by decide)]
  apply wpAny_bind
  apply HT.slicePart_ .none
  apply wpAny_bind
  apply HT.slicePart_ .none
  apply wpAny_bind
  apply wpAny_pure
  show wpAny _ _ (match Builtin.Slice.sliceAdjust none none (-1) (items.size : Int) with | (lo, hi) => pure (lo, (-1 : Int), Builtin.Slice.slicePlaces lo hi (-1))) _ _ s
  rw [rev_bounds]
  show wpAny _ _ (pure ((items.size : Int) - 1, (-1 : Int), Builtin.Slice.slicePlaces ((items.size : Int) - 1) (-1) (-1))) _ _ s
  rw [rev_places]
  apply wpAny_pure
  show wpAny _ _ (if (((items.size : Int) - 1) == 0 && (-1 : Int) == 1 && items.size == items.size) = true then _ else _) _ _ s
  rw [if_neg (by simp), rev_pick]
  first
    | exact wpAny_bind (m := Builtin.Tuple.tupleExact _) (wpAny_newObj_type (wpAny_pure ⟨_, rfl, wpAny_pure h⟩) hok)
    | exact wpAny_bind (m := Builtin.Tuple.tupleExact _) (wpAny_newObj_type (wpAny_bind (wpAny_pure (wpAny_pure ⟨_, rfl, wpAny_pure h⟩))) hok)
    | exact wpAny_bind (wpAny_bind (m := Builtin.Tuple.tupleExact _) (wpAny_newObj_type (wpAny_pure (wpAny_pure ⟨_, rfl, wpAny_pure h⟩)) hok))
    | exact wpAny_bind (wpAny_bind (m := Builtin.Tuple.tupleExact _) (wpAny_newObj_type (wpAny_pure ⟨_, rfl, wpAny_pure h⟩) hok))
end
section
variable {X : Cx}
def tRevT (K : PySem.W.Frag) (te : TE) : TE := fun σ H Q => te σ H fun x H1 => ∃ a xs, x = .ref a ∧ SqT K H1 a xs ∧ ∀ p, H1 p = none → Q (.ref p) (upd H1 p (.tup xs.reverse))
theorem pe_revT {e : Expr} {te : TE} {k : Nat} {p1 p2 p3 pos : Pos} (he : PE X e te) : PE X (.Subscript e (.Slice none none (some (.UnaryOp .USub (.Constant (.int 1) k p1) p2)) p3) pos) (tRevT X.K te) := by
  constructor
  intro pins s σ H Q I h
  refine Subscript_ (thn (he.run pins s σ H _ I h) ?_)
  rintro v s1 ⟨x, H1, I1, r1, a, xs, rfl, hx, q⟩
  cases r1
  have hst : PO X (some (.UnaryOp .USub (.Constant (.int 1) k p1) p2)) (tPart (tUn (rU fun i => .int (-i)) (tC (.int 1)))) := po_some (pe_un un_neg pe_int)
  refine wpAny_Slice (thn (po_none.run pins s1 σ H1 (fun o H2 => o = none ∧ H2 = H1) I1 ⟨rfl, rfl⟩) ?_)
  rintro vl s2 ⟨l, H2, I2, pl, rfl, rfl⟩
  refine thn (po_none.run pins s2 σ H2 (fun o H3 => o = none ∧ H3 = H2) I2 ⟨rfl, rfl⟩) ?_
  rintro vu s3 ⟨u, H3, I3, pu, rfl, rfl⟩
  refine thn (hst.run pins s3 σ H3 (fun o H4 => o = some (-1) ∧ H4 = H3) I3 ⟨1, rfl, -1, rfl, rfl, rfl⟩) ?_
  rintro vs s4 ⟨o, H4, I4, ps, rfl, rfl⟩
  cases pl
  cases pu
  have I5 : Inv X pins σ H4 { s4 with heap := s4.heap.push { cls := .type "slice", data := .fields #[.none, .none, vs] } } := I4.kept (t' := s4.toks) fun b ob q => Heap.get?_push_of_some _ q
  obtain ⟨its, r, ht, hz⟩ := I5.tuple hx
  show wpAny (model X.prog X.w) X.A (subscriptTail e (.Slice none none (some (.UnaryOp .USub (.Constant (.int 1) k p1) p2)) p3) (.ref a) (.ref s4.heap.objs.size)) (EP X pins σ Q) X.xe { s4 with heap := s4.heap.push { cls := .type "slice", data := .fields #[.none, .none, vs] } }
  have hlen : its.toArray.size = xs.length := by
    rw [List.size_toArray]
    exact r.length.symm
  apply tail_any (ops := [.ref a, .ref s4.heap.objs.size]) ht.typeIs PyProof.Rows.slot_tuple_getitem.lookup _ (by with_unfolding_all rfl)
  apply getItem_rev ht (Heap.IsSliceOf.new _ .none .none vs) ps (by rw [hlen]; exact hz)
  refine ⟨.ref _, _, I5.laid (t' := s4.toks) (o := .tup xs.reverse) (fun b ob q => Heap.get?_push_of_some _ q) (Nat.le_refl _) ?_, rfl, q _ (I5.hok.fresh (Nat.le_refl _))⟩
  exact ⟨by rw [List.length_reverse]; exact hz, _, r.reverse, IsTup.new _ _⟩

/-! ### t * k, k from 0 on -/
theorem mul_same (l : Addr) (items : Array Value) (n : Nat) (dd : Option Addr) (sl : Array (Option Value)) (x : Int) (u : Tok) (c0 : (decide (x < -(2 ^ 63)) || decide (x ≥ 2 ^ 63)) = false) (c1 : (items.isEmpty || x == 1) = true) :
    Meets (Builtin.«tuple.__mul__» ⟨[.ref l, .int x u], []⟩) (fun _ R s => s.heap.get? l = some { cls := .type "tuple", dict := dd, data := .seq items n, slots := sl } ∧ R (.ok (.ret (Value.ref l))) s) :=
  .of_wp fun prog w A R s h => by
    obtain ⟨hp, g, d, tk, os⟩ := s
    obtain ⟨hl, h⟩ := h
    have f1 := AutoSeq1.idx_int
    wp_walk using wpAny_loadPart' hl
    repeat (first
      | (refine wpAny_ite_false (decide_eq_false (by rw [c0]; exact Bool.false_ne_true)) ?_; wp_walk using wpAny_loadPart' hl)
      | (refine wpAny_ite_true (decide_eq_true c1) ?_; wp_walk using wpAny_loadPart' hl))
    exact ⟨_, rfl, h⟩
theorem mul_none (l : Addr) (items : Array Value) (n : Nat) (dd : Option Addr) (sl : Array (Option Value)) (x : Int) (u : Tok) (c0 : (decide (x < -(2 ^ 63)) || decide (x ≥ 2 ^ 63)) = false) (c1 : (items.isEmpty || x == 1) = false)
    (c2 : (decide (x ≤ 0) || items.isEmpty) = true) :
    Meets (Builtin.«tuple.__mul__» ⟨[.ref l, .int x u], []⟩) (fun _ R s => s.heap.get? l = some { cls := .type "tuple", dict := dd, data := .seq items n, slots := sl } ∧
      R (.ok (.ret (Value.ref s.heap.objs.size))) { s with heap := s.heap.push { cls := Value.type "tuple", data := Data.seq #[] }, toks := s.toks }) :=
  .of_wp fun prog w A R s h => by
    obtain ⟨hp, g, d, tk, os⟩ := s
    obtain ⟨hl, h⟩ := h
    have f1 := AutoSeq1.idx_int
    wp_walk using wpAny_loadPart' hl
    repeat (first
      | (refine wpAny_ite_false (decide_eq_false (by rw [c0]; exact Bool.false_ne_true)) ?_; wp_walk using wpAny_loadPart' hl)
      | (refine wpAny_ite_false (decide_eq_false (by rw [c1]; exact Bool.false_ne_true)) ?_; wp_walk using wpAny_loadPart' hl)
      | (refine wpAny_ite_true (decide_eq_true c2) ?_; wp_walk using wpAny_loadPart' hl)
      | (refine wpAny_ite_false (decide_eq_false (Nat.not_lt.mpr (Nat.zero_le _))) ?_; wp_walk using wpAny_loadPart' hl))
    exact ⟨_, rfl, h⟩
/-- t * k for every k from 0 to 1000 -/
def rRepA (K : PySem.W.Frag) : R2 := fun x y H Q => ∃ l k xs, x = .ref l ∧ y = .int k ∧ SqT K H l xs ∧ 0 ≤ k ∧ k ≤ 1000 ∧ xs.length ≤ 1000 ∧
  ((xs = [] ∨ k = 1) → Q (.ref l) H) ∧ (¬ (xs = [] ∨ k = 1) → ∀ p, H p = none → Q (.ref p) (upd H p (.tup (List.replicate k.toNat xs).flatten)))
theorem op_repA : OpR X (binaryOp .Mult) (rRepA X.K) := by
  intro pins s σ H x y v u Q I rx ry h
  obtain ⟨l, k, xs, rfl, rfl, hT, h0, h1, hz, q1, q2⟩ := h
  by_cases hc : xs = [] ∨ k = 1
  · cases rx
    obtain ⟨t, rfl⟩ := ry
    obtain ⟨its, r, ⟨⟨cls, dd, data, sl⟩, ho, hcl, n, hd⟩, hs⟩ := I.tuple hT
    simp only at hcl hd
    subst hcl hd
    have hle : its.length = xs.length := r.length.symm
    have c0 : (decide (k < -(2 ^ 63)) || decide (k ≥ 2 ^ 63)) = false := by
      rw [decide_eq_false (by omega), decide_eq_false (by omega)]
      rfl
    have c1 : (its.toArray.isEmpty || k == 1) = true := by
      rcases hc with e | e
      · rw [e] at hle
        have e2 := List.eq_nil_of_length_eq_zero hle
        subst e2
        rfl
      · subst e
        rw [Bool.or_eq_true]
        exact .inr rfl
    refine wpAny_binaryOp_repeat_ref (T := "tuple") (U := "int") (by decide) ⟨_, ho, rfl⟩ (fun s' => typeIs_int s' k t) noFill_tuple_mul F.fills_int_mul F.slot_int_rmul repeat_tuple F.slot_int_index.lookup
      (call_meets F.slot_int_rmul (typeIs_int s k t) F.entry_int_rmul (F.args_int_rmul_2 _ _) (int_rmul_tuple k t l its.toArray n dd sl) ?_)
    refine ⟨ho, rfl, ⟨_, ho, rfl⟩, call_meets F.slot_tuple_mul ⟨_, ho, rfl⟩ F.entry_tuple_mul (F.args_tuple_mul_2 _ _) (mul_same l its.toArray n dd sl k t c0 c1) ⟨ho, ?_⟩⟩
    exact ⟨.ref l, H, I, rfl, q1 hc⟩
  · have hx : xs ≠ [] := fun e => hc (.inl e)
    have hk1 : k ≠ 1 := fun e => hc (.inr e)
    by_cases hk : 2 ≤ k
    · exact op_repT pins s σ H _ _ v u Q I rx ry ⟨l, k, xs, rfl, rfl, hT, hx, hk, h1, hz, q2 hc⟩
    · have e0 : k = 0 := by omega
      subst e0
      cases rx
      obtain ⟨t, rfl⟩ := ry
      obtain ⟨its, r, ⟨⟨cls, dd, data, sl⟩, ho, hcl, n, hd⟩, hs⟩ := I.tuple hT
      simp only at hcl hd
      subst hcl hd
      have hle : its.length = xs.length := r.length.symm
      have hne : its.toArray.isEmpty = false := by
        cases its with
        | nil => exact absurd (List.eq_nil_of_length_eq_zero hle.symm) hx
        | cons a b => rfl
      have c1 : (its.toArray.isEmpty || (0 : Int) == 1) = false := by
        rw [hne]
        rfl
      refine wpAny_binaryOp_repeat_ref (T := "tuple") (U := "int") (by decide) ⟨_, ho, rfl⟩ (fun s' => typeIs_int s' 0 t) noFill_tuple_mul F.fills_int_mul F.slot_int_rmul repeat_tuple F.slot_int_index.lookup
        (call_meets F.slot_int_rmul (typeIs_int s 0 t) F.entry_int_rmul (F.args_int_rmul_2 _ _) (int_rmul_tuple 0 t l its.toArray n dd sl) ?_)
      refine ⟨ho, rfl, ⟨_, ho, rfl⟩, call_meets F.slot_tuple_mul ⟨_, ho, rfl⟩ F.entry_tuple_mul (F.args_tuple_mul_2 _ _) (mul_none l its.toArray n dd sl 0 t rfl c1 rfl) ⟨ho, ?_⟩⟩
      refine ⟨.ref s.heap.objs.size, _, I.laid (t' := s.toks) (o := .tup []) (fun b ob q => Heap.get?_push_of_some _ q) (Nat.le_refl _) ?_, rfl, q2 hc _ (I.hok.fresh (Nat.le_refl _))⟩
      exact ⟨Nat.zero_le _, [], .nil, IsTup.new _ _⟩
end
end Dt

set_option maxRecDepth 100000
set_option maxHeartbeats 4000000
namespace Dl
open PySem PySem.Spec PyProof.Rows L2 Gd Dt
open Evl (Ex Ex.refl Ex.trans Ex.new ex_l ex_t sq_of st_of fresh_back)

section
variable {K : PySem.W.Frag} {π : Option Pn} {σ : L2.St} {H0 H0' H1 : Hp} {ta tb te : TE} {tt tu : TT} {tl : TA} {Φ Ψ : DP} {i : Nat}

/-! ### data by places -/
theorem dps_get : ∀ {ds : List PyData} {vs : List V} {i : Nat} {d : PyData}, DaAll K H0 vs ds → ds[i]? = some d → ∃ v, vs[i]? = some v ∧ Da K H0 v d
  | [], _, _, _, _, e => by simp at e
  | _ :: _, _, 0, _, h, e => by
    cases h with
    | cons h1 h2 =>
      simp at e
      subst e
      exact ⟨_, rfl, h1⟩
  | _ :: _, _, i + 1, _, h, e => by
    cases h with
    | cons h1 h2 =>
      obtain ⟨v, a, b⟩ := dps_get (i := i) h2 (by simpa using e)
      exact ⟨v, by simpa using a, b⟩
theorem dps_app : ∀ {ds es : List PyData} {vs ws : List V}, DaAll K H0 vs ds → DaAll K H0 ws es → DaAll K H0 (vs ++ ws) (ds ++ es)
  | [], _, _, _, h, k => by cases h; exact k
  | _ :: _, _, _, _, h, k => by
    cases h with
    | cons h1 h2 => exact .cons h1 (dps_app h2 k)
theorem dps_take : ∀ {ds : List PyData} {vs : List V} (n : Nat), DaAll K H0 vs ds → DaAll K H0 (vs.take n) (ds.take n)
  | _, _, 0, _ => by simp; exact .nil
  | [], _, _ + 1, h => by cases h; exact .nil
  | _ :: _, _, n + 1, h => by
    cases h with
    | cons h1 h2 => exact .cons h1 (dps_take n h2)
theorem dps_drop : ∀ {ds : List PyData} {vs : List V} (n : Nat), DaAll K H0 vs ds → DaAll K H0 (vs.drop n) (ds.drop n)
  | _, _, 0, h => h
  | [], _, _ + 1, h => by cases h; exact .nil
  | _ :: _, _, n + 1, h => by
    cases h with
    | cons h1 h2 => exact dps_drop n h2
theorem dps_rev : ∀ {ds : List PyData} {vs : List V}, DaAll K H0 vs ds → DaAll K H0 vs.reverse ds.reverse
  | [], _, h => by cases h; exact .nil
  | _ :: _, _, h => by
    cases h with
    | cons h1 h2 =>
      rw [List.reverse_cons, List.reverse_cons]
      exact dps_app (dps_rev h2) (.cons h1 .nil)
theorem dps_rep {ds : List PyData} {vs : List V} (h : DaAll K H0 vs ds) : ∀ n : Nat, DaAll K H0 (List.replicate n vs).flatten (List.replicate n ds).flatten
  | 0 => .nil
  | n + 1 => by
    rw [List.replicate_succ, List.replicate_succ, List.flatten_cons, List.flatten_cons]
    exact dps_app h (dps_rep h n)
/-- what stands at an address as a tuple, a list -/
theorem dp_tup {x : V} {ds : List PyData} (h : Da K H0 x (.tuple ds)) : ∃ a xs, x = .ref a ∧ SqT K H0 a xs ∧ DaAll K H0 xs ds := by
  cases h with
  | tup h1 h2 => exact ⟨_, _, rfl, h1, h2⟩
theorem dp_lst {x : V} {ds : List PyData} (h : Da K H0 x (.list ds)) : ∃ a xs, x = .ref a ∧ SqL K H0 a xs ∧ DaAll K H0 xs ds := by
  cases h with
  | lst h1 h2 => exact ⟨_, _, rfl, h1, h2⟩

/-! ### subscripts, slices, sums, products of tuples -/
theorem od_ixT {ds : List PyData} {i : Int} {d : PyData} (h : atI ds i = some d) : OpD K π (rIxT K) (.tuple ds) (.int i) (· = d) := fun x y H0 H1 hx hy o Q q => by
  obtain ⟨a, xs, rfl, hs, hd⟩ := dp_tup hx
  rw [dp_int hy]
  have hl := dps_len hd
  unfold atI at h
  cases hj : ixN ds.length i with
  | none =>
    rw [hj] at h
    cases h
  | some j =>
    rw [hj] at h
    obtain ⟨v, e1, e2⟩ := dps_get hd (show ds[j]? = some d from h)
    exact ⟨a, xs, i, v, rfl, rfl, ex_t o.ex hs, by unfold atI; rw [hl, hj]; exact e1, q v d H0 H1 rfl o.stp e2⟩
theorem od_ixL {ds : List PyData} {i : Int} {d : PyData} (h : atI ds i = some d) : OpD K π (rIxL K) (.list ds) (.int i) (· = d) := fun x y H0 H1 hx hy o Q q => by
  obtain ⟨a, xs, rfl, hs, hd⟩ := dp_lst hx
  rw [dp_int hy]
  have hl := dps_len hd
  unfold atI at h
  cases hj : ixN ds.length i with
  | none =>
    rw [hj] at h
    cases h
  | some j =>
    rw [hj] at h
    obtain ⟨v, e1, e2⟩ := dps_get hd (show ds[j]? = some d from h)
    exact ⟨a, xs, i, v, rfl, rfl, ex_l o.ex hs, by unfold atI; rw [hl, hj]; exact e1, q v d H0 H1 rfl o.stp e2⟩
def cutD (ds : List PyData) (lo hi : Option Int) : List PyData := (ds.drop (HT.sIx ds.length 0 lo)).take (HT.sIx ds.length ds.length hi - HT.sIx ds.length 0 lo)
theorem dps_cut {ds : List PyData} {vs : List V} (lo hi : Option Int) (h : DaAll K H0 vs ds) : DaAll K H0 (cutV vs lo hi) (cutD ds lo hi) := by
  unfold cutV cutD
  rw [dps_len h]
  exact dps_take _ (dps_drop _ h)
theorem eo_no : EvO K π tNoPart σ H0 none := fun H1 o Q q => q H0 H1 o.stp
theorem eo_part {i : Int} (h : EvD K π te σ H0 (· = .int i)) : EvO K π (tPart te) σ H0 (some i) := fun H1 o Q q => h H1 o _ fun v d N H2 e s hv => by
  subst e
  exact ⟨i, dp_int hv, q N H2 s⟩
theorem ed_slT {tlo thi : TO} {lo hi : Option Int} {ds : List PyData} (h : EvD K π te σ H0 (· = .tuple ds)) (hl : EvO K π tlo σ H0 lo) (hu : EvO K π thi σ H0 hi) : EvD K π (tSl (rSlA K) te tlo thi) σ H0 (· = .tuple (cutD ds lo hi)) := fun H1 o Q q =>
  h H1 o _ fun v d N H2 e s hv => hl.mono s.ex H2 (s.okk o) _ fun N2 H3 s2 => hu.mono (s.ex.trans s2.ex) H3 (s2.okk (s.okk o)) _ fun N3 H4 s3 => by
    subst e
    have S := (s.trans s2 o).trans s3 o
    have o4 := S.okk o
    obtain ⟨a, xs, rfl, hs, hd⟩ := dp_tup (dp_ex (s2.ex.trans s3.ex) hv)
    refine ⟨a, xs, rfl, ex_t o4.ex hs, fun hw => ?_, fun hw p hp => ?_⟩
    · have e2 : cutD ds lo hi = ds := by
        unfold cutD
        rw [← dps_len hd, hw.1, hw.2, dps_len hd]
        simp
      exact q _ _ N3 H4 (by rw [e2]) S (.tup hs hd)
    · have s4 := o4.new hp (Ex.new hp) (upd_same (o := .tup (cutV xs lo hi)))
      exact q _ _ _ _ rfl (S.trans s4 o) (.tup (st_of upd_same) (dps_ex s4.ex (dps_cut lo hi hd)))
theorem ed_rev {ds : List PyData} (h : EvD K π te σ H0 (· = .tuple ds)) : EvD K π (tRevT K te) σ H0 (· = .tuple ds.reverse) := fun H1 o Q q => h H1 o _ fun v d N H2 e s hv => by
  subst e
  obtain ⟨a, xs, rfl, hs, hd⟩ := dp_tup hv
  refine ⟨a, xs, rfl, ex_t (s.okk o).ex hs, fun p hp => ?_⟩
  have s4 := (s.okk o).new hp (Ex.new hp) (upd_same (o := .tup xs.reverse))
  exact q _ _ _ _ rfl (s.trans s4 o) (.tup (st_of upd_same) (dps_ex s4.ex (dps_rev hd)))
theorem od_cat {ds es : List PyData} (hz : ds.length + es.length ≤ 100000) : OpD K π (rCatA K) (.tuple ds) (.tuple es) (· = .tuple (ds ++ es)) := fun x y H0 H1 hx hy o Q q => by
  obtain ⟨a, xs, rfl, hs, hd⟩ := dp_tup hx
  obtain ⟨b, ys, rfl, ht, he⟩ := dp_tup hy
  have l1 := dps_len hd
  have l2 := dps_len he
  refine ⟨a, b, xs, ys, rfl, rfl, ex_t o.ex hs, ex_t o.ex ht, Evl.sz_of (by omega), fun e => ?_, fun _ e => ?_, fun _ _ p hp => ?_⟩
  · subst e
    cases hd
    exact q _ _ H0 H1 rfl o.stp (.tup ht he)
  · subst e
    cases he
    exact q _ _ H0 H1 (by rw [List.append_nil]) o.stp (.tup hs hd)
  · have s4 := o.new hp (Ex.new hp) (upd_same (o := .tup (xs ++ ys)))
    exact q _ _ _ _ rfl s4 (.tup (st_of upd_same) (dps_ex s4.ex (dps_app hd he)))
theorem od_rep {ds : List PyData} {k : Int} (h0 : 0 ≤ k) (h1 : k ≤ 1000) (hz : ds.length ≤ 1000) : OpD K π (rRepA K) (.tuple ds) (.int k) (· = .tuple (List.replicate k.toNat ds).flatten) := fun x y H0 H1 hx hy o Q q => by
  obtain ⟨a, xs, rfl, hs, hd⟩ := dp_tup hx
  refine ⟨a, k, xs, rfl, dp_int hy, ex_t o.ex hs, h0, h1, by rw [dps_len hd]; exact hz, fun e => ?_, fun _ p hp => ?_⟩
  · refine q _ _ H0 H1 rfl o.stp ?_
    have e2 : (List.replicate k.toNat ds).flatten = ds := by
      rcases e with e | e
      · subst e
        cases hd
        simp
      · subst e
        simp
    rw [e2]
    exact .tup hs hd
  · have s4 := o.new hp (Ex.new hp) (upd_same (o := .tup (List.replicate k.toNat xs).flatten))
    exact q _ _ _ _ rfl s4 (.tup (st_of upd_same) (dps_ex s4.ex (dps_rep hd _)))

/-! ### calls of built-ins -/
/-- a built-in by data -/
def CbD (K : PySem.W.Frag) (π : Option Pn) (r : List V → Hp → VK → Prop) (ds : List PyData) (Φ : DP) : Prop := ∀ vs H0 H1, DaAll K H0 vs ds → Okk K π H0 H1 → ∀ Q, PostV K π H0 H1 Φ Q → r vs H1 Q
theorem ed_cb {r : List V → Hp → VK → Prop} {Φl : List PyData → Prop} (h : EvL K π tl σ H0 Φl) (k : ∀ ds, Φl ds → CbD K π r ds Φ) : EvD K π (tCB r tl) σ H0 Φ := fun H1 o Q q => h H1 o _ fun vs ds N H2 pd s kd =>
  k ds pd vs N H2 kd (s.okk o) Q fun v d N2 H3 hd s2 hv => q v d N2 H3 hd (s.trans s2 o) hv
theorem ed_cb' {r : List V → Hp → VK → Prop} {ds : List PyData} (h : EvL K π tl σ H0 (· = ds)) (k : CbD K π r ds Φ) : EvD K π (tCB r tl) σ H0 Φ := ed_cb h fun _ e => by rw [e]; exact k
theorem dps1 {vs : List V} {d : PyData} (h : DaAll K H0 vs [d]) : ∃ v, vs = [v] ∧ Da K H0 v d := by
  cases h with
  | cons h1 h2 =>
    cases h2
    exact ⟨_, rfl, h1⟩
abbrev rLen (K : PySem.W.Frag) : List V → Hp → VK → Prop := fun xs H Q => ∃ p ys, xs = [.ref p] ∧ (SqL K H p ys ∨ SqT K H p ys) ∧ Q (.int ys.length) H
theorem cb_lenT {ds : List PyData} : CbD K π (rLen K) [.tuple ds] (· = .int ds.length) := fun vs H0 H1 h o Q q => by
  obtain ⟨v, rfl, hv⟩ := dps1 h
  obtain ⟨a, xs, rfl, hs, hd⟩ := dp_tup hv
  exact ⟨a, xs, rfl, .inr (ex_t o.ex hs), by rw [dps_len hd]; exact q _ _ H0 H1 rfl o.stp (.int _)⟩
theorem cb_lenL {ds : List PyData} : CbD K π (rLen K) [.list ds] (· = .int ds.length) := fun vs H0 H1 h o Q q => by
  obtain ⟨v, rfl, hv⟩ := dps1 h
  obtain ⟨a, xs, rfl, hs, hd⟩ := dp_lst hv
  exact ⟨a, xs, rfl, .inl (ex_l o.ex hs), by rw [dps_len hd]; exact q _ _ H0 H1 rfl o.stp (.int _)⟩
abbrev rTupOf (K : PySem.W.Frag) : List V → Hp → VK → Prop := fun xs H Q => ∃ p ys, xs = [.ref p] ∧ ((SqL K H p ys ∧ ∀ l, H l = none → Q (.ref l) (upd H l (.tup ys))) ∨ (SqT K H p ys ∧ Q (.ref p) H))
theorem cb_tupL {ds : List PyData} : CbD K π (rTupOf K) [.list ds] (· = .tuple ds) := fun vs H0 H1 h o Q q => by
  obtain ⟨v, rfl, hv⟩ := dps1 h
  obtain ⟨a, xs, rfl, hs, hd⟩ := dp_lst hv
  refine ⟨a, xs, rfl, .inl ⟨ex_l o.ex hs, fun p hp => ?_⟩⟩
  have s4 := o.new hp (Ex.new hp) (upd_same (o := .tup xs))
  exact q _ _ _ _ rfl s4 (.tup (st_of upd_same) (dps_ex s4.ex hd))
theorem cb_tupT {ds : List PyData} : CbD K π (rTupOf K) [.tuple ds] (· = .tuple ds) := fun vs H0 H1 h o Q q => by
  obtain ⟨v, rfl, hv⟩ := dps1 h
  obtain ⟨a, xs, rfl, hs, hd⟩ := dp_tup hv
  exact ⟨a, xs, rfl, .inr ⟨ex_t o.ex hs, q _ _ H0 H1 rfl o.stp (.tup hs hd)⟩⟩
theorem cb_repr {d : PyData} (h1 : d.showable = true) (h2 : d.hasDict = false) (h3 : d.depth ≤ 40) (h4 : d.shown.length ≤ sizeLine) : CbD K π (rRepr K) [d] (· = .str d.shown) := fun vs H0 H1 h o Q q => by
  obtain ⟨v, rfl, hv⟩ := dps1 h
  exact ⟨v, d, rfl, da_plain (dp_ex o.ex hv) h2, h1, h2, h3, h4, q _ _ H0 H1 rfl o.stp (.str _)⟩
theorem map_bl : ∀ {bs : List Bool} {vs : List V}, DaAll K H0 vs (bs.map .bool) → vs = bs.map .bl
  | [], _, h => by cases h; rfl
  | _ :: _, _, h => by
    cases h with
    | cons h1 h2 => rw [dp_bl h1, map_bl h2]; rfl
theorem cb_all {bs : List Bool} : CbD K π (rAll K) [.list (bs.map .bool)] (· = .bool (bs.all id)) := fun vs H0 H1 h o Q q => by
  obtain ⟨v, rfl, hv⟩ := dps1 h
  obtain ⟨a, xs, rfl, hs, hd⟩ := dp_lst hv
  rw [map_bl hd] at hs
  exact ⟨a, bs, rfl, ex_l o.ex hs, q _ _ H0 H1 rfl o.stp (.bl _)⟩

/-! ### own defs, by data -/
/-- a def that reads data and hands back data -/
def spD (K : PySem.W.Frag) (pre : List PyData → Prop) (post : List PyData → DP) : Sp := fun vs H Q _ => ∃ H0 ds, DaAll K H0 vs ds ∧ pre ds ∧ Okk K none H0 H ∧ PostV K none H0 H (post ds) Q
/-- a def that draws by the pen at its first place -/
def spP (K : PySem.W.Frag) (pre : List PyData → Prop) (post : List PyData → DP) : Sp := fun vs H Q _ => ∃ (q : Pn) (H0 : Hp) (ws : List V) (ds : List PyData), vs = .ref q.p :: ws ∧ DaAll K H0 ws ds ∧ pre ds ∧ Okk K (some q) H0 H ∧ PostV K (some q) H0 H (post ds) Q
theorem okk_none (o : Okk K π H0 H1) : Okk K none H0 H1 := ⟨o.ex, fun q e => by cases e⟩
theorem stp_any {H2 : Hp} (o : Okk K π H0 H1) (s : Stp K none H0 H1 H0' H2) : Stp K π H0 H1 H0' H2 :=
  have e : Ex H1 H2 := fun a u h => s.off a u (fun q z => by cases z) h
  ⟨s.ex, s.gr, s.ex2, Off.of e, fun q z => (o.pen q z).2.ex e⟩
theorem sp_ok {pre : List PyData → Prop} {post : List PyData → DP} {ds : List PyData} {vs : List V} {Q : VK} {E : XK} (hp : pre ds) (kd : DaAll K H0 vs ds) (o : Okk K π H0 H1) (q : PostV K π H0 H1 (post ds) Q) : spD K pre post vs H1 Q E :=
  ⟨H0, ds, kd, hp, okk_none o, fun v d N H2 pd s hv => q v d N H2 pd (stp_any o s) hv⟩
theorem ed_go {pre : List PyData → Prop} {post : List PyData → DP} {Φl : List PyData → Prop} (h : EvL K π tl σ H0 Φl) (hp : ∀ ds, Φl ds → pre ds) (k : ∀ ds d, Φl ds → post ds d → Φ d) : EvD K π (tGo (spD K pre post) tl) σ H0 Φ := fun H1 o Q q => h H1 o _ fun vs ds N H2 pd s kd =>
  sp_ok (hp ds pd) kd (s.okk o) fun v d N2 H3 hd s2 hv => q v d N2 H3 (k ds d pd hd) (s.trans s2 o) hv
theorem ed_call {pre : List PyData → Prop} {post : List PyData → DP} {Φl : List PyData → Prop} (h : EvL K π tl σ H0 Φl) (hp : ∀ ds, Φl ds → pre ds) (k : ∀ ds d, Φl ds → post ds d → Φ d) : EvD K π (tCall (spD K pre post) [] E0 tl) σ H0 Φ := fun H1 o Q q => h H1 o _ fun vs ds N H2 pd s kd =>
  show spD K pre post (vs ++ []) H2 Q E0 by
    rw [List.append_nil]
    exact sp_ok (hp ds pd) kd (s.okk o) fun v d N2 H3 hd s2 hv => q v d N2 H3 (k ds d pd hd) (s.trans s2 o) hv
theorem ed_callP {q : Pn} {pre : List PyData → Prop} {post : List PyData → DP} {Φl : List PyData → Prop} (hv : σ[i]? = some (some (.ref q.p))) (h : EvL K (some q) tl σ H0 Φl) (hp : ∀ ds, Φl ds → pre ds) (k : ∀ ds d, Φl ds → post ds d → Φ d) :
    EvD K (some q) (tCall (spP K pre post) [] E0 (tCons (tVar i) tl)) σ H0 Φ := fun H1 o Q qq => ⟨_, hv, h H1 o _ fun vs ds N H2 pd s kd =>
  show spP K pre post ((.ref q.p :: vs) ++ []) H2 Q E0 by
    rw [List.append_nil]
    exact ⟨q, N, vs, ds, rfl, kd, hp ds pd, s.okk o, fun v d N2 H3 hd s2 hv => qq v d N2 H3 (k ds d pd hd) (s.trans s2 o) hv⟩⟩
theorem ed_goP {q : Pn} {pre : List PyData → Prop} {post : List PyData → DP} {Φl : List PyData → Prop} (hv : σ[i]? = some (some (.ref q.p))) (h : EvL K (some q) tl σ H0 Φl) (hp : ∀ ds, Φl ds → pre ds) (k : ∀ ds d, Φl ds → post ds d → Φ d) :
    EvD K (some q) (tGo (spP K pre post) (tCons (tVar i) tl)) σ H0 Φ := fun H1 o Q qq => ⟨_, hv, h H1 o _ fun vs ds N H2 pd s kd =>
  ⟨q, N, vs, ds, rfl, kd, hp ds pd, s.okk o, fun v d N2 H3 hd s2 hv => qq v d N2 H3 (k ds d pd hd) (s.trans s2 o) hv⟩⟩

/-! ### what is walked -/
structure WalkD (K : PySem.W.Frag) (π : Option Pn) (J : It) (xs : List PyData) (N : Hp) : Prop where
  go : ∀ i M H, Ex N M → Okk K π M H → i < xs.length → J.go i H
  stop : ∀ M H, Ex N M → Okk K π M H → J.stop xs.length H
  yld : ∀ i M H x H', Ex N M → Okk K π M H → i < xs.length → J.yld i H x H' → ∃ M' d, xs[i]? = some d ∧ Stp K π M H M' H' ∧ Da K M' x d
def EvI (K : PySem.W.Frag) (π : Option Pn) (wi : TI) (σ : L2.St) (H0 : Hp) (Φ : List PyData → Prop) : Prop := ∀ H1, Okk K π H0 H1 → ∀ R : It → Hp → Prop, (∀ J xs N H2, Φ xs → Stp K π H0 H1 N H2 → WalkD K π J xs N → R J H2) → wi σ H1 R
theorem EvI.mono {wi : TI} {Φ : List PyData → Prop} (e : Ex H0 H0') (h : EvI K π wi σ H0 Φ) : EvI K π wi σ H0' Φ := fun H1 o R q => h H1 (okk_less e o) R fun J xs N H2 hx s w => by
  obtain ⟨M, hM, s'⟩ := stp_more e o s
  exact q J xs M H2 hx s' ⟨fun i A B e1 => w.go i A B (hM.trans e1), fun A B e1 => w.stop A B (hM.trans e1), fun i A B x H' e1 => w.yld i A B x H' (hM.trans e1)⟩
theorem ei_tup {xs : List PyData} (h : EvD K π te σ H0 (· = .tuple xs)) : EvI K π (iTup K te) σ H0 (· = xs) := fun H1 o R q => h H1 o _ fun v d N H2 e s hv => by
  subst e
  obtain ⟨a, vs, rfl, hs, hd⟩ := dp_tup hv
  refine ⟨a, rfl, ⟨vs, ex_t (s.okk o).ex hs⟩, q _ xs N H2 rfl s ⟨fun i M H e1 oM hi => ?_, fun M H e1 oM => ?_, fun i M H x H' e1 oM hi hy => ?_⟩⟩
  · obtain ⟨w, ew, _⟩ := dps_get hd (List.getElem?_eq_getElem hi)
    exact ⟨vs, w, ex_t (e1.trans oM.ex) hs, ew⟩
  · exact ⟨vs, ex_t (e1.trans oM.ex) hs, by rw [dps_len hd]; exact Nat.le_refl _⟩
  · obtain ⟨rfl, hy⟩ := hy
    have z := hy vs (ex_t (e1.trans oM.ex) hs)
    obtain ⟨w, ew, kw⟩ := dps_get hd (List.getElem?_eq_getElem hi)
    rw [z] at ew
    cases ew
    exact ⟨M, _, List.getElem?_eq_getElem hi, oM.stp, dp_ex e1 kw⟩
theorem ei_lst {xs : List PyData} (h : EvD K π te σ H0 (· = .list xs)) : EvI K π (iList K te) σ H0 (· = xs) := fun H1 o R q => h H1 o _ fun v d N H2 e s hv => by
  subst e
  obtain ⟨a, vs, rfl, hs, hd⟩ := dp_lst hv
  refine ⟨a, rfl, ⟨vs, ex_l (s.okk o).ex hs⟩, q _ xs N H2 rfl s ⟨fun i M H e1 oM hi => ?_, fun M H e1 oM => ?_, fun i M H x H' e1 oM hi hy => ?_⟩⟩
  · obtain ⟨w, ew, _⟩ := dps_get hd (List.getElem?_eq_getElem hi)
    exact ⟨vs, w, ex_l (e1.trans oM.ex) hs, ew⟩
  · exact ⟨vs, ex_l (e1.trans oM.ex) hs, by rw [dps_len hd]; exact Nat.le_refl _⟩
  · obtain ⟨rfl, hy⟩ := hy
    have z := hy vs (ex_l (e1.trans oM.ex) hs)
    obtain ⟨w, ew, kw⟩ := dps_get hd (List.getElem?_eq_getElem hi)
    rw [z] at ew
    cases ew
    exact ⟨M, _, List.getElem?_eq_getElem hi, oM.stp, dp_ex e1 kw⟩
def upto (lo : Int) (n : Nat) : List PyData := (List.range n).map fun k => .int (lo + (k : Nat))
theorem upto_len (lo : Int) (n : Nat) : (upto lo n).length = n := by simp [upto]
theorem upto_get {lo : Int} {n i : Nat} {d : PyData} (h : (upto lo n)[i]? = some d) : i < n ∧ d = .int (lo + (i : Nat)) := by
  have hi := (List.getElem?_eq_some_iff.mp h).1
  rw [upto_len] at hi
  unfold upto at h
  rw [List.getElem?_map, List.getElem?_range hi] at h
  exact ⟨hi, (Option.some.inj h).symm⟩
theorem wd_range {lo : Int} {n : Nat} {N : Hp} : WalkD K π (Itr lo n) (upto lo n) N :=
  ⟨fun i M H _ _ hi => by rw [upto_len] at hi; exact hi, fun M H _ _ => by rw [upto_len]; exact Nat.le_refl _, fun i M H x H' e1 oM hi hy => by
    obtain ⟨rfl, rfl⟩ := hy
    rw [upto_len] at hi
    refine ⟨M, .int (lo + (i : Nat)), ?_, oM.stp, .int _⟩
    unfold upto
    rw [List.getElem?_map, List.getElem?_range hi]
    rfl⟩
theorem ei_range1 {Φl : List PyData → Prop} {Ψl : List PyData → Prop} (h : EvL K π tl σ H0 Φl) (k : ∀ ds, Φl ds → ∃ n : Int, ds = [.int n] ∧ -(2 ^ 62) ≤ n ∧ n < 2 ^ 62 ∧ Ψl (upto 0 n.toNat)) : EvI K π (iRng1 tl) σ H0 Ψl := fun H1 o R q => h H1 o _ fun vs ds N H2 pd s kd => by
  obtain ⟨n, rfl, h1, h2, hx⟩ := k ds pd
  obtain ⟨v, rfl, hv⟩ := dps1 kd
  rw [dp_int hv]
  exact ⟨n, rfl, h1, h2, q _ _ N H2 hx s wd_range⟩
theorem ei_range2 {Φl : List PyData → Prop} {Ψl : List PyData → Prop} (h : EvL K π tl σ H0 Φl) (k : ∀ ds, Φl ds → ∃ m n : Int, ds = [.int m, .int n] ∧ (-(2 ^ 62) ≤ m ∧ m < 2 ^ 62 ∧ -(2 ^ 62) ≤ n ∧ n < 2 ^ 62) ∧ Ψl (upto m (n - m).toNat)) : EvI K π (iRng2 tl) σ H0 Ψl := fun H1 o R q => h H1 o _ fun vs ds N H2 pd s kd => by
  obtain ⟨m, n, rfl, h1, hx⟩ := k ds pd
  cases kd with
  | cons k1 k2 =>
    obtain ⟨v, rfl, hv⟩ := dps1 k2
    rw [dp_int hv, dp_int k1]
    exact ⟨m, n, rfl, h1, q _ _ N H2 hx s wd_range⟩
def pairs (xs ys : List PyData) : List PyData := List.zipWith (fun x y => .tuple [x, y]) xs ys
theorem pairs_get {xs ys : List PyData} {i : Nat} {x y : PyData} (h1 : xs[i]? = some x) (h2 : ys[i]? = some y) : (pairs xs ys)[i]? = some (.tuple [x, y]) := by
  unfold pairs
  rw [List.getElem?_zipWith, h1, h2]
theorem pairs_of {xs ys : List PyData} {i : Nat} {d : PyData} (h : (pairs xs ys)[i]? = some d) : ∃ x y, xs[i]? = some x ∧ ys[i]? = some y ∧ d = .tuple [x, y] := by
  unfold pairs at h
  rw [List.getElem?_zipWith] at h
  cases h1 : xs[i]? with
  | none => rw [h1] at h; cases h
  | some x =>
    cases h2 : ys[i]? with
    | none => rw [h1, h2] at h; cases h
    | some y =>
      rw [h1, h2] at h
      exact ⟨x, y, rfl, rfl, (Option.some.inj h).symm⟩
theorem ei_zipT {xs ys : List PyData} (h : EvL K π tl σ H0 (· = [.tuple xs, .tuple ys])) : EvI K π (RZ.iZipA K tl) σ H0 (· = pairs xs ys) := fun H1 o R q => h H1 o _ fun vs ds N H2 pd s kd => by
  subst pd
  cases kd with
  | cons k1 k2 =>
    obtain ⟨v, rfl, hv⟩ := dps1 k2
    obtain ⟨a, us, rfl, hs, hd⟩ := dp_tup k1
    obtain ⟨b, ws, rfl, ht, he⟩ := dp_tup hv
    have len : (pairs xs ys).length = min xs.length ys.length := by simp [pairs]
    have l1 := dps_len hd
    have l2 := dps_len he
    refine ⟨a, b, us, ws, rfl, .inr ⟨ex_t (s.okk o).ex hs, ex_t (s.okk o).ex ht, q _ _ N H2 rfl s ⟨fun i M H e1 oM hi => ?_, fun M H e1 oM => ?_, fun i M H x H' e1 oM hi hy => ?_⟩⟩⟩
    · obtain ⟨x, ex, _⟩ := dps_get hd (List.getElem?_eq_getElem (show i < xs.length by omega))
      obtain ⟨y, ey, _⟩ := dps_get he (List.getElem?_eq_getElem (show i < ys.length by omega))
      exact ⟨us, ws, x, y, ex_t (e1.trans oM.ex) hs, ex_t (e1.trans oM.ex) ht, ex, ey⟩
    · exact ⟨us, ws, ex_t (e1.trans oM.ex) hs, ex_t (e1.trans oM.ex) ht, by omega⟩
    · obtain ⟨T, u, w, rfl, hT, rfl, hx, hy⟩ := hy
      have z1 := hx us (ex_t (e1.trans oM.ex) hs)
      have z2 := hy ws (ex_t (e1.trans oM.ex) ht)
      have g1 := List.getElem?_eq_getElem (show i < xs.length by omega)
      have g2 := List.getElem?_eq_getElem (show i < ys.length by omega)
      obtain ⟨x, ex, kx⟩ := dps_get hd g1
      obtain ⟨y, ey, ky⟩ := dps_get he g2
      rw [z1] at ex
      rw [z2] at ey
      cases ex
      cases ey
      have s4 := oM.new hT (Ex.new hT) (upd_same (o := .tup [u, w]))
      exact ⟨_, _, pairs_get g1 g2, s4, .tup (st_of upd_same) (.cons (dp_ex (e1.trans s4.ex) kx) (.cons (dp_ex (e1.trans s4.ex) ky) .nil))⟩

/-! ### targets -/
def TgD (K : PySem.W.Frag) (g : TG) (ok : PyData → Prop) (T : PyData → Hp → L2.St → L2.St → Prop) : Prop := ∀ x d M H σ (Q : L2.St → Hp → Prop), ok d → Da K M x d → Ex M H → (∀ σ', T d M σ σ' → Q σ' H) → g x σ H Q
def T1 (K : PySem.W.Frag) (j : Nat) : PyData → Hp → L2.St → L2.St → Prop := fun d M σ σ' => ∃ x, Da K M x d ∧ σ' = σ.set j (some x)
def T2 (K : PySem.W.Frag) (j k : Nat) : PyData → Hp → L2.St → L2.St → Prop := fun d M σ σ' => ∃ a b x y, d = .tuple [a, b] ∧ Da K M x a ∧ Da K M y b ∧ σ' = (σ.set j (some x)).set k (some y)
theorem tg1 {j : Nat} : TgD K (gName j) (fun _ => True) (T1 K j) := fun x d M H σ Q _ hx _ q => q _ ⟨x, hx, rfl⟩
theorem tg2 {j k : Nat} : TgD K (gTup K 2 (gCons (gName j) (gCons (gName k) gNil))) (fun d => ∃ a b, d = .tuple [a, b]) (T2 K j k) := fun x d M H σ Q hd hx e q => by
  obtain ⟨a, b, rfl⟩ := hd
  obtain ⟨p, vs, rfl, hs, hall⟩ := dp_tup hx
  cases hall with
  | cons h1 h2 =>
    obtain ⟨y, rfl, hy⟩ := dps1 h2
    exact ⟨p, _, rfl, ex_t e hs, rfl, _, _, rfl, _, _, rfl, rfl, q _ ⟨a, b, _, y, rfl, h1, hy, rfl⟩⟩

/-- an object that the walk's beginning does not know may change -/
theorem Stp.mut {M H2 : Hp} {l : Addr} {ob : HO} (s : Stp K π H0 H1 M H2) (o : Okk K π H0 H1) (h1 : H1 l = none) (hM : M l = none) : Stp K π H0 H1 M (upd H2 l ob) := by
  have h2 : ∀ a u, H1 a = some u → a ≠ l := fun a u e z => by rw [z, h1] at e; cases e
  refine ⟨s.ex, s.gr, fun a u e => ?_, fun a u n e => ?_, fun q hq => ?_⟩
  · rw [upd_ne (fun z => by rw [z, hM] at e; cases e)]
    exact s.ex2 a u e
  · rw [upd_ne (h2 a u e)]
    exact s.off a u n e
  · have P1 := (o.pen q hq).2
    have P2 := s.pen q hq
    obtain ⟨c1, c2, c3⟩ := P1.cells
    obtain ⟨b1, b2, b3⟩ := P2.cells
    refine ⟨⟨b1, b2, by rw [upd_ne (h2 _ _ c3)]; exact b3⟩, ?_, P2.ne, P2.few⟩
    rcases P1.given with (h | ⟨ob', h⟩) | h
    · refine .inl (.inl ?_)
      rw [upd_ne (h2 _ _ h)]
      exact s.off _ _ (fun q' hq' z => by rw [hq] at hq'; cases hq'; exact P1.ne z) h
    · refine .inl (.inr ⟨ob', ?_⟩)
      rw [upd_ne (h2 _ _ h)]
      exact s.off _ _ (fun q' hq' z => by rw [hq] at hq'; cases hq'; exact P1.ne z) h
    · exact .inr h

/-! ### comprehensions -/
/-- a new list -/
def EvF (K : PySem.W.Frag) (π : Option Pn) (te : TE) (σ : L2.St) (H0 : Hp) (Φ : List PyData → Prop) : Prop := ∀ H1, Okk K π H0 H1 → ∀ Q : VK,
  (∀ p vs ds N H2, Φ ds → Stp K π H0 H1 N H2 → N p = some (.lst vs) → DaAll K N vs ds → Q (.ref p) H2) → te σ H1 Q
theorem EvF.ed {Φl : List PyData → Prop} (h : EvF K π te σ H0 Φl) (k : ∀ ds, Φl ds → Φ (.list ds)) : EvD K π te σ H0 Φ := fun H1 o Q q =>
  h H1 o Q fun p vs ds N H2 hd s hp kd => q _ _ N H2 (k ds hd) s (.lst (sq_of hp) kd)
theorem ef_lc {Φ : List PyData → Prop} {wi : TI} {g : TG} {vs : List Nat} {Φx : List PyData → Prop} {T : PyData → Hp → L2.St → L2.St → Prop} {ok : PyData → Prop} (hi : EvI K π wi σ H0 Φx) (hT : TgD K g ok T) (hok : ∀ xs d, Φx xs → d ∈ xs → ok d) (hlen : ∀ xs, Φx xs → xs.length ≤ 40000)
    (hw : ∀ d M σ', T d M (wipe σ vs) σ' → wipe σ' vs = wipe σ vs) (Pv : List PyData → Nat → List PyData → Prop) (h0 : ∀ xs, Φx xs → Pv xs 0 [])
    (hs : ∀ xs i d acc M σ', Φx xs → xs[i]? = some d → Ex H0 M → T d M (wipe σ vs) σ' → Pv xs i acc → ∃ Φb : Bool → Prop, EvB K π tt σ' M Φb ∧ (Φb true → EvD K π te σ' M fun y => Pv xs (i + 1) (acc ++ [y])) ∧ (Φb false → Pv xs (i + 1) acc))
    (hd : ∀ xs acc, Φx xs → Pv xs xs.length acc → Φ acc) : EvF K π (tLc wi g tt te vs) σ H0 Φ := fun H1 o Q q => hi H1 o _ fun J xs N H2 px s wk D hD => by
  have oN := s.okk o
  have nD : N D = none := fresh_back oN.ex hD
  let Inv := fun (i : Nat) (H : Hp) => ∃ M acc accV, M D = none ∧ Stp K π N H2 M H ∧ H D = some (.lst accV) ∧ DaAll K M accV acc ∧ Pv xs i acc ∧ acc.length ≤ i
  refine ⟨fun i m H => m = xs.length - i ∧ i ≤ xs.length ∧ Inv i H, ⟨xs.length, by simp, Nat.zero_le _, ?_⟩, ?_⟩
  · exact ⟨N, [], [], nD, oN.stp.mut oN hD nD, upd_same, .nil, h0 xs px, Nat.le_refl _⟩
  rintro i m H ⟨rfl, hi', M, acc, accV, mD, sM, hDH, hacc, pv, hla⟩
  have oM := sM.okk oN
  by_cases hlt : i < xs.length
  · refine .inr ⟨wk.go i M H sM.ex oM hlt, Inv (i + 1), fun H' p' => ⟨xs.length - (i + 1), by omega, rfl, hlt, p'⟩, fun x H' hy => ?_⟩
    obtain ⟨M', d, ed, s1, kd⟩ := wk.yld i M H x H' sM.ex oM hlt hy
    have o1 := s1.okk oM
    have neD : ∀ q, π = some q → D ≠ q.p := fun q hq z => by
      rw [z] at hD
      exact (oN.pen q hq).2.some hD
    have m1D := s1.out mD (by rw [hDH]; exact fun z => by cases z)
    have h1D : H' D = some (.lst accV) := s1.off _ _ neD hDH
    refine hT x d M' H' _ _ (hok xs d px (List.mem_of_getElem? ed)) kd o1.ex fun σ' tσ => ⟨hw d M' σ' tσ, ?_⟩
    obtain ⟨Φb, hb, ht, hf⟩ := hs xs i d acc M' σ' px ed (s.ex.trans (sM.ex.trans s1.ex)) tσ pv
    refine hb H' o1 _ fun b M2 H3 pb s2 => ?_
    have o2 := s2.okk o1
    have m2D := s2.out m1D (by rw [h1D]; exact fun z => by cases z)
    have h2D : H3 D = some (.lst accV) := s2.off _ _ neD h1D
    cases b with
    | false =>
      show Inv (i + 1) H3
      exact ⟨M2, acc, accV, m2D, (sM.trans s1 oN).trans s2 oN, h2D, dps_ex (s1.ex.trans s2.ex) hacc, hf pb, by omega⟩
    | true =>
      refine (ht pb).mono s2.ex H3 o2 _ fun y dy M3 H4 py s3 ky => ?_
      have m3D := s3.out m2D (by rw [h2D]; exact fun z => by cases z)
      have h3D : H4 D = some (.lst accV) := s3.off _ _ neD h2D
      have S := ((sM.trans s1 oN).trans s2 oN).trans s3 oN
      have hl := dps_len hacc
      have hx := hlen xs px
      refine ⟨accV, h3D, Evl.sz_lt (by omega), M3, acc ++ [dy], accV ++ [y], m3D, S.mut oN hD m3D, upd_same, ?_, py, by rw [List.length_append, List.length_singleton]; omega⟩
      exact dps_app (dps_ex (s1.ex.trans (s2.ex.trans s3.ex)) hacc) (.cons ky .nil)
  · have e : i = xs.length := by omega
    subst e
    refine .inl ⟨wk.stop M H sM.ex oM, ?_⟩
    have sD : Stp K π N H2 (upd M D (.lst accV)) H := by
      refine ⟨sM.ex.trans (Ex.new mD), fun a ha => ?_, fun a u ha => ?_, sM.off, sM.pen⟩
      · by_cases ea : a = D
        · subst ea
          exact .inr hD
        · rw [upd_ne ea] at ha
          exact sM.gr a ha
      · by_cases ea : a = D
        · subst ea
          rw [upd_same] at ha
          cases ha
          exact hDH
        · rw [upd_ne ea] at ha
          exact sM.ex2 a u ha
    exact q _ _ _ _ _ (hd xs acc px pv) (s.trans sD o) upd_same (dps_ex (Ex.new mD) hacc)

/-! ### statements -/
variable {M H : Hp} {D : Ends} {t u tz : TS} {S0 S1 : Hp}
theorem PostV.go (q : PostV K π S0 S1 Φ Q) (o : Okk K π S0 S1) (s : Stp K π S0 S1 M H) (k : ∀ d, Ψ d → Φ d) : PostV K π M H Ψ Q := fun v d N H2 hd s2 hv => q v d N H2 (k d hd) (s.trans s2 o) hv
theorem s_ret (h : EvD K π te σ M Φ) (o : Okk K π M H) (q : PostV K π M H Φ D.rt) : tRet te D σ H := h H o _ q
theorem s_asg (h : EvD K π te σ M Φ) (o : Okk K π M H) (k : ∀ v d M' H', Φ d → Stp K π M H M' H' → Da K M' v d → D.nx (σ.set i (some v)) H') : tAsg te (gName i) D σ H := h H o _ fun v d N H2 hd s hv => k v d N H2 hd s hv
theorem q_asg (h : EvD K π te σ M Φ) (o : Okk K π M H) (k : ∀ v d M' H', Φ d → Stp K π M H M' H' → Da K M' v d → tz D (σ.set i (some v)) H') : tSeq (tAsg te (gName i)) tz D σ H := s_asg (D := { D with nx := tz D }) h o k
theorem s_if {Φb : Bool → Prop} (h : EvB K π tt σ M Φb) (o : Okk K π M H) (k1 : Φb true → ∀ M' H', Stp K π M H M' H' → t D σ H') (k2 : Φb false → ∀ M' H', Stp K π M H M' H' → u D σ H') : tIfS tt t u D σ H := h H o _ fun b N H2 hb s => by
  cases b with
  | true => exact k1 hb N H2 s
  | false => exact k2 hb N H2 s
theorem q_if {Φb : Bool → Prop} (h : EvB K π tt σ M Φb) (o : Okk K π M H) (k1 : Φb true → ∀ M' H', Stp K π M H M' H' → t { D with nx := tz D } σ H') (k2 : Φb false → ∀ M' H', Stp K π M H M' H' → u { D with nx := tz D } σ H') : tSeq (tIfS tt t u) tz D σ H :=
  s_if (D := { D with nx := tz D }) h o k1 k2
/-- if c: .. (no else), then the rest -/
theorem q_when {Φb : Bool → Prop} (h : EvB K π tt σ M Φb) (o : Okk K π M H) (k1 : Φb true → ∀ M' H', Stp K π M H M' H' → t { D with nx := tz D } σ H') (k2 : Φb false → ∀ M' H', Stp K π M H M' H' → tz D σ H') : tSeq (tIfS tt t tNext) tz D σ H :=
  s_if (D := { D with nx := tz D }) h o k1 k2
theorem q_par {j : Nat} {Φ2 : PyData → PyData → Prop} (h : EvL K π tl σ M (fun ds => ∃ a b, ds = [a, b] ∧ Φ2 a b)) (o : Okk K π M H)
    (k : ∀ v w a b M' H', Φ2 a b → Stp K π M H M' H' → Da K M' v a → Da K M' w b → tz D ((σ.set i (some v)).set j (some w)) H') : tSeq (tPar i j tl) tz D σ H := h H o _ fun vs ds N H2 hd s kd => by
  obtain ⟨a, b, rfl, hab⟩ := hd
  cases kd with
  | cons k1 k2 =>
    obtain ⟨w, rfl, hw⟩ := dps1 k2
    exact ⟨_, _, rfl, k _ w a b N H2 hab s k1 hw⟩
theorem s_for {wi : TI} {g : TG} {Φx : List PyData → Prop} {T : PyData → Hp → L2.St → L2.St → Prop} {ok : PyData → Prop} (hi : EvI K π wi σ M Φx) (o : Okk K π M H) (hT : TgD K g ok T) (hok : ∀ xs d, Φx xs → d ∈ xs → ok d)
    (Pv : List PyData → Nat → L2.St → Hp → Hp → Prop) (hO : ∀ xs i σ' M' H', Pv xs i σ' M' H' → Okk K π M' H')
    (h0 : ∀ xs N H2, Φx xs → Stp K π M H N H2 → Pv xs 0 σ N H2)
    (hs : ∀ xs i d σ' M' H' M2 H2 σ2, Φx xs → Ex M M' → Pv xs i σ' M' H' → Stp K π M' H' M2 H2 → xs[i]? = some d → T d M2 σ' σ2 → t { D with nx := fun σ3 H3 => ∃ M3, Ex M' M3 ∧ Pv xs (i + 1) σ3 M3 H3, ct := fun σ3 H3 => ∃ M3, Ex M' M3 ∧ Pv xs (i + 1) σ3 M3 H3, bk := D.nx } σ2 H2)
    (hd : ∀ xs σ' M' H', Φx xs → Ex M M' → Pv xs xs.length σ' M' H' → D.nx σ' H') : tFor wi g t D σ H := hi H o _ fun J xs N H2 px s wk => by
  refine ⟨fun i m σ' H' => m = xs.length - i ∧ i ≤ xs.length ∧ ∃ M', Ex N M' ∧ Pv xs i σ' M' H', ⟨xs.length, by simp, Nat.zero_le _, N, Ex.refl _, h0 xs N H2 px s⟩, ?_⟩
  rintro i m σ' H' ⟨rfl, hi', M', e1, pv⟩
  have oM := hO _ _ _ _ _ pv
  by_cases hlt : i < xs.length
  · refine .inr ⟨wk.go i M' H' e1 oM hlt, fun σ3 H3 => ∃ M3, Ex M' M3 ∧ Pv xs (i + 1) σ3 M3 H3, ?_, fun x H'' hy => ?_⟩
    · rintro σ3 H3 ⟨M3, e3, p3⟩
      exact ⟨xs.length - (i + 1), by omega, rfl, hlt, M3, e1.trans e3, p3⟩
    obtain ⟨M2, d, ed, s1, kd⟩ := wk.yld i M' H' x H'' e1 oM hlt hy
    exact hT x d M2 H'' σ' _ (hok xs d px (List.mem_of_getElem? ed)) kd (s1.okk oM).ex fun σ2 tσ => hs xs i d σ' M' H' M2 H'' σ2 px (s.ex.trans e1) pv s1 ed tσ
  · have e : i = xs.length := by omega
    subst e
    exact .inl ⟨wk.stop M' H' e1 oM, hd xs σ' M' H' px (s.ex.trans e1) pv⟩
theorem q_for {wi : TI} {g : TG} {Φx : List PyData → Prop} {T : PyData → Hp → L2.St → L2.St → Prop} {ok : PyData → Prop} (hi : EvI K π wi σ M Φx) (o : Okk K π M H) (hT : TgD K g ok T) (hok : ∀ xs d, Φx xs → d ∈ xs → ok d)
    (Pv : List PyData → Nat → L2.St → Hp → Hp → Prop) (hO : ∀ xs i σ' M' H', Pv xs i σ' M' H' → Okk K π M' H')
    (h0 : ∀ xs N H2, Φx xs → Stp K π M H N H2 → Pv xs 0 σ N H2)
    (hs : ∀ xs i d σ' M' H' M2 H2 σ2, Φx xs → Ex M M' → Pv xs i σ' M' H' → Stp K π M' H' M2 H2 → xs[i]? = some d → T d M2 σ' σ2 → t { D with nx := fun σ3 H3 => ∃ M3, Ex M' M3 ∧ Pv xs (i + 1) σ3 M3 H3, ct := fun σ3 H3 => ∃ M3, Ex M' M3 ∧ Pv xs (i + 1) σ3 M3 H3, bk := tz D } σ2 H2)
    (hd : ∀ xs σ' M' H', Φx xs → Ex M M' → Pv xs xs.length σ' M' H' → tz D σ' H') : tSeq (tFor wi g t) tz D σ H := s_for (D := { D with nx := tz D }) hi o hT hok Pv hO h0 hs hd
/-- while c: W with a measure -/
theorem q_while (W : Nat → L2.St → Hp → Hp → Prop) (m0 : Nat) (hO : ∀ m σ' M' H', W m σ' M' H' → Okk K π M' H') (h0 : W m0 σ M H)
    (hs : ∀ m σ' M' H', W m σ' M' H' → ∃ b : Bool, EvB K π tt σ' M' (· = b) ∧
      (b = true → ∀ M2 H2, Stp K π M' H' M2 H2 → t { D with nx := fun σ3 H3 => ∃ m' M3, m' < m ∧ W m' σ3 M3 H3, ct := fun σ3 H3 => ∃ m' M3, m' < m ∧ W m' σ3 M3 H3, bk := tz D } σ' H2) ∧
      (b = false → ∀ M2 H2, Stp K π M' H' M2 H2 → tz D σ' H2)) : tSeq (tWhile tt t) tz D σ H := by
  refine ⟨fun m σ' H' => ∃ M', W m σ' M' H', ⟨m0, M, h0⟩, ?_⟩
  rintro m σ' H' ⟨M', w⟩
  obtain ⟨b, hb, k1, k2⟩ := hs m σ' M' H' w
  refine hb H' (hO _ _ _ _ w) _ fun c N H2 ec s => ?_
  subst ec
  cases c with
  | true => exact ⟨_, fun σ3 H3 ⟨m', M3, l, w3⟩ => ⟨m', l, M3, w3⟩, k1 rfl N H2 s⟩
  | false => exact k2 rfl N H2 s
/-- lists that change: a new one; append, extend; from now on read alone -/
theorem q_new (k : ∀ p, H p = none → tz D (σ.set i (some (.ref p))) (upd H p (.lst []))) : tSeq (tAsg (tLst tNil) (gName i)) tz D σ H := ⟨Nat.zero_le _, k⟩
theorem s_app {l : Addr} {xs : List V} (ha : σ[i]? = some (some (.ref l))) (hl : H l = some (.lst xs)) (hn : ∀ q, π = some q → l ≠ q.p) (hz : xs.length < 100000) (h : EvD K π te σ M Φ) (o : Okk K π M H)
    (k : ∀ v d M' H', Φ d → Stp K π M H M' H' → Da K M' v d → H' l = some (.lst xs) → D.nx σ (upd H' l (.lst (xs ++ [v])))) : tDrop (tBM K "list" rAppend (tVar i) (tCons te tNil)) D σ H := by
  refine ⟨_, ha, .inl ⟨rfl, _, .inl (.inl hl)⟩, h H o _ fun v d N H2 hd s hv => ?_⟩
  have h2 := s.off _ _ hn hl
  exact ⟨l, xs, v, rfl, rfl, h2, Evl.sz_lt hz, k v d N H2 hd s hv h2⟩
theorem s_ext {l : Addr} {xs : List V} {Φl : List PyData → Prop} (ha : σ[i]? = some (some (.ref l))) (hl : H l = some (.lst xs)) (hn : ∀ q, π = some q → l ≠ q.p) (h : EvF K π te σ M Φl) (o : Okk K π M H) (hz : ∀ ds, Φl ds → xs.length + ds.length ≤ 100000)
    (k : ∀ vs ds M' H', Φl ds → Stp K π M H M' H' → DaAll K M' vs ds → H' l = some (.lst xs) → D.nx σ (upd H' l (.lst (xs ++ vs)))) : tDrop (tBM K "list" rExtend (tVar i) (tCons te tNil)) D σ H := by
  refine ⟨_, ha, .inl ⟨rfl, _, .inl (.inl hl)⟩, h H o _ fun p vs ds N H2 hd s hp kd => ?_⟩
  have h2 := s.off _ _ hn hl
  exact ⟨l, p, xs, vs, rfl, rfl, h2, s.ex2 _ _ hp, Evl.sz_of (by rw [dps_len kd]; exact hz ds hd), k vs ds N H2 hd s kd h2⟩
theorem Stp.freeze {l : Addr} {ob : HO} (s : Stp K π S0 S1 M H) (h1 : S1 l = none) (hM : M l = none) (hl : H l = some ob) : Stp K π S0 S1 (upd M l ob) H := by
  refine ⟨s.ex.trans (Ex.new hM), fun a ha => ?_, fun a u ha => ?_, s.off, s.pen⟩
  · by_cases ea : a = l
    · subst ea
      exact .inr h1
    · rw [upd_ne ea] at ha
      exact s.gr a ha
  · by_cases ea : a = l
    · subst ea
      rw [upd_same] at ha
      cases ha
      exact hl
    · rw [upd_ne ea] at ha
      exact s.ex2 a u ha
end
end Dl

set_option maxRecDepth 100000
set_option maxHeartbeats 4000000
namespace Dl
open PySem PySem.Spec PyProof.Rows L2 Gd Dt
open Evl (Ex Ex.refl Ex.trans Ex.new ex_l ex_t sq_of st_of fresh_back)

/-- the built-ins stand under their names -/
structure Blt (mg : Str → Option Value) : Prop where
  len : mg "len" = none
  int : mg "int" = none
  list : mg "list" = none
  tuple : mg "tuple" = none
  repr : mg "repr" = none
  range : mg "range" = none
  zip : mg "zip" = none
  all : mg "all" = none

/-- a def of the text that keeps its promise, as callers find it -/
structure Cal (P : Program) (w : World) (K : PySem.W.Frag) (mg : Str → Option Value) (base : Heap) (x : Str) (k : Nat) (ps : List Str) (sp : Sp) : Prop where
  ex : ∃ (f : Addr) (fd : FuncData), FnOk P w K mg base CX0 k f fd ps sp ∧ mg x = some (.ref f) ∧ PySem.W.keepIn K (.ref f) = true ∧ L2.Binds K fd ps []
/-- the same where no repr is on its way -/
structure CalG (P : Program) (w : World) (K : PySem.W.Frag) (mg : Str → Option Value) (base : Heap) (x : Str) (k : Nat) (ps : List Str) (sp : Sp) : Prop where
  ex : ∃ (f : Addr) (fd : FuncData), Fn P w K mg base k f fd ps sp ∧ mg x = some (.ref f) ∧ PySem.W.keepIn K (.ref f) = true ∧ L2.Binds K fd ps []
section
variable {X : Cx} {k j : Nat} {ps : List Str} {sp : Sp} {x : Str} {p pos : Pos} {e : Expr} {es : List Expr} {t : TA}
theorem pe_c (c : Cal X.prog X.w X.K X.mg X.base x k ps sp) (hr : Room k X.A) (hg : Gl X x) (ha : PA X (e :: es) t) (hdb : (x == ("__debug__" : Str)) = false := by decide)
    (he : starEach (e :: es) X.env = (false, eval e X.env) :: starEach es X.env := by rfl) (hpl : (backTo pos (starEach es X.env)).any (·.1) = false := by rfl) : PE X (.Call (.Name x p) (e :: es) [] pos) (tCall sp [] E0 t) := by
  obtain ⟨f, fd, F, hm, hk, hb⟩ := c.ex
  exact pe_call F hr hg hm hk hb .nil pass0 ha hdb he hpl
theorem pe_cg (c : CalG X.prog X.w X.K X.mg X.base x k ps sp) (hfree : Free X.A) (hr : Room k X.A) (hg : Gl X x) (ha : PA X (e :: es) t) (hdb : (x == ("__debug__" : Str)) = false := by decide)
    (he : starEach (e :: es) X.env = (false, eval e X.env) :: starEach es X.env := by rfl) (hpl : (backTo pos (starEach es X.env)).any (·.1) = false := by rfl) : PE X (.Call (.Name x p) (e :: es) [] pos) (tGo sp t) := by
  obtain ⟨f, fd, F, hm, hk, hb⟩ := c.ex
  exact pe_go F hfree hr hg hm hk hb ha hdb he hpl
end

/-! ### tuples of whole numbers -/
def tupI (ns : List Int) : PyData := .tuple (ns.map .int)
theorem shaped_tupI (ns : List Int) : SeqAt.shaped (tupI ns) = true := by
  have h1 : ∀ ns : List Int, PyData.canLayAll0 (ns.map .int) = true := fun ns => by
    induction ns with
    | nil => rfl
    | cons n ns ih => simpa [PyData.canLayAll0, PyData.canLay0] using ih
  have h2 : ∀ ns : List Int, PyData.depthAll (ns.map .int) ≤ 1 := fun ns => by
    induction ns with
    | nil => simp [PyData.depthAll]
    | cons n ns ih => simp only [List.map_cons, PyData.depthAll, PyData.depth]; omega
  unfold SeqAt.shaped tupI
  rw [Bool.and_eq_true]
  refine ⟨h1 ns, decide_eq_true ?_⟩
  have := h2 ns
  simp only [PyData.depth]
  omega
end Dl

set_option maxRecDepth 100000
set_option maxHeartbeats 4000000
namespace Dl
open PySem PySem.Spec PyProof.Rows L2 Gd Dt
open Evl (Ex Ex.refl Ex.trans Ex.new ex_l ex_t sq_of st_of fresh_back)

/-- data of moderate size: what a repr and a comparison ask -/
structure Sm (d : PyData) (dep wt : Nat) : Prop where
  lay : d.canLay0 = true
  shrt : d.intsShort 13 = true
  sho : d.showable = true
  nod : d.hasDict = false
  dpt : d.depth ≤ dep
  wgt : d.weight ≤ wt
theorem Sm.up {d : PyData} {a b a' b' : Nat} (h : Sm d a b) (h1 : a ≤ a') (h2 : b ≤ b') : Sm d a' b' := ⟨h.lay, h.shrt, h.sho, h.nod, Nat.le_trans h.dpt h1, Nat.le_trans h.wgt h2⟩
theorem sm_none : Sm .none 0 0 := ⟨rfl, rfl, rfl, rfl, Nat.le_refl _, Nat.le_refl _⟩
theorem sm_bool (b : Bool) : Sm (.bool b) 0 0 := ⟨rfl, rfl, rfl, rfl, Nat.le_refl _, Nat.le_refl _⟩
theorem log_lt {n : Nat} (h : n < 10 ^ 12) : n.log2 < 40 := by
  by_cases e : n = 0
  · subst e
    decide
  · rw [Nat.log2_lt e]
    have : (10 : Nat) ^ 12 < 2 ^ 40 := by decide
    omega
theorem sm_int {i : Int} (h : i.natAbs < 10 ^ 12) : Sm (.int i) 0 40 := by
  have hl := log_lt h
  refine ⟨rfl, ?_, ?_, rfl, Nat.le_refl _, ?_⟩
  · simp only [PyData.intsShort]
    exact decide_eq_true (PyData.shown_int_le h)
  · simp only [PyData.showable]
    exact decide_eq_true (by omega)
  · simp only [PyData.weight]
    split <;> omega
theorem sm_all {dep wt : Nat} : ∀ {ds : List PyData}, (∀ d ∈ ds, Sm d dep wt) → PyData.canLayAll0 ds = true ∧ PyData.intsShortAll 13 ds = true ∧ PyData.showableAll ds = true ∧ PyData.hasDictAll ds = false ∧ PyData.depthAll ds ≤ dep ∧ PyData.weightAll ds ≤ ds.length * (wt + 1)
  | [], _ => ⟨rfl, rfl, rfl, rfl, Nat.zero_le _, Nat.zero_le _⟩
  | d :: ds, h => by
    obtain ⟨a1, a2, a3, a4, a5, a6⟩ := sm_all (ds := ds) fun x hx => h x (List.mem_cons_of_mem _ hx)
    have hd := h d List.mem_cons_self
    refine ⟨?_, ?_, ?_, ?_, ?_, ?_⟩
    · simp only [PyData.canLayAll0, hd.lay, a1, Bool.and_self]
    · simp only [PyData.intsShortAll, hd.shrt, a2, Bool.and_self]
    · simp only [PyData.showableAll, hd.sho, a3, Bool.and_self]
    · simp only [PyData.hasDictAll, hd.nod, a4, Bool.or_self]
    · simp only [PyData.depthAll]
      have := hd.dpt
      omega
    · have := hd.wgt
      simp only [PyData.weightAll, List.length_cons, Nat.succ_mul]
      omega
theorem sm_tup {dep wt : Nat} {ds : List PyData} (h : ∀ d ∈ ds, Sm d dep wt) : Sm (.tuple ds) (dep + 1) (ds.length * (wt + 1)) := by
  obtain ⟨a1, a2, a3, a4, a5, a6⟩ := sm_all h
  refine ⟨by simpa only [PyData.canLay0] using a1, by simpa only [PyData.intsShort] using a2, by simpa only [PyData.showable] using a3, by simpa only [PyData.hasDict] using a4, ?_, by simpa only [PyData.weight] using a6⟩
  simp only [PyData.depth]
  omega
theorem sm_lst {dep wt : Nat} {ds : List PyData} (h : ∀ d ∈ ds, Sm d dep wt) : Sm (.list ds) (dep + 1) (ds.length * (wt + 1)) := by
  obtain ⟨a1, a2, a3, a4, a5, a6⟩ := sm_all h
  refine ⟨by simpa only [PyData.canLay0] using a1, by simpa only [PyData.intsShort] using a2, by simpa only [PyData.showable] using a3, by simpa only [PyData.hasDict] using a4, ?_, by simpa only [PyData.weight] using a6⟩
  simp only [PyData.depth]
  omega
theorem sm_tupI {ns : List Int} (h : ∀ n ∈ ns, n.natAbs < 10 ^ 12) : Sm (tupI ns) 1 (ns.length * 41) := by
  have := sm_tup (dep := 0) (wt := 40) (ds := ns.map .int) fun d hd => by
    obtain ⟨n, hn, rfl⟩ := List.mem_map.mp hd
    exact sm_int (h n hn)
  rw [List.length_map] at this
  exact this
theorem Sm.shaped {d : PyData} {a b : Nat} (h : Sm d a b) (h1 : a ≤ 64 := by decide) : SeqAt.shaped d = true := by
  unfold SeqAt.shaped
  rw [Bool.and_eq_true]
  exact ⟨h.lay, decide_eq_true (Nat.le_trans h.dpt h1)⟩
theorem Sm.repr {K : PySem.W.Frag} {π : Option Pn} {d : PyData} {a b : Nat} (h : Sm d a b) (h1 : a ≤ 40 := by decide) (h2 : b ≤ 2 ^ 20 := by decide) : CbD K π (rRepr K) [d] (· = .str d.shown) :=
  cb_repr h.sho h.nod (Nat.le_trans h.dpt h1) (PyData.shown_fits (B := 13) (by decide) (by decide) (PyData.leavesShort_of_canLay0 13 d h.lay h.shrt) (Nat.le_trans h.wgt h2))
theorem Sm.eqv {d : PyData} {a b : Nat} (h : Sm d a b) : PyData.eqv d d = true := SeqAt.eqv_refl d h.lay
end Dl

set_option maxRecDepth 100000
set_option maxHeartbeats 4000000
/-! errors of own classes, each straight over a built-in one, kept as values: the storing of fields, the making by place and by name -/
namespace Ee
open PySem PySem.W PySem.Calls PyProof.Rows PySem.HandSPX
open Builtin Builtin.ObjectAttr
section
variable {prog : Program} {w : World} {A : Around} {E : Value → Shared → Prop} {R : Result → Shared → Prop} {hp : Heap} {gs : Array GenState} {dr : Drawn} {tk0 : Nat} {os : OsState} {Bn : String} {mB : List Value} {K : Frag}

/-- the first field: the error gets its dict -/
theorem field_first {nm : Str} {tk : Tok} {u : Value} {e C : Addr} {fv : Array Value} {cd : ClassData} (SF : StoreFacts Bn mB "object.__setattr__" "object")
    (KX : K.In hp) (he : hp.get? e = some { cls := .ref C, data := .fields fv }) (hcd : clsIn K C = some cd) (hm : cd.mro = .ref C :: mB) (hh : cd.hasDict = true) (no : findIn K (.ref C) nm = some none)
    (k : ∀ h' tk' dx, (∀ b o, b ≠ e → hp.get? b = some o → h'.get? b = some o) → hp.objs.size ≤ dx → dx ≠ e → h'.get? e = some { cls := .ref C, dict := some dx, data := .fields fv } →
      h'.Ns1 dx (fun z => if z = nm then some u else none) → R (.ok (.ret .none)) ⟨h', gs, dr, tk', os⟩) :
    codeAny (model prog w) A (.call (.builtin "object.__setattr__") ⟨[.ref e, .str nm tk, u], []⟩) R ⟨hp, gs, dr, tk0, os⟩ := by
  have J : InstAt hp e { cls := .ref C, data := .fields fv } C none := ⟨he, rfl, rfl, trivial⟩
  have ob : cd.mro.contains (.type "object") = true := by
    rw [hm, List.contains_cons, SF.hasOwner, Bool.or_true]
  have en : e ≠ hp.objs.size := Nat.ne_of_lt (Heap.lt_size he)
  have sub : Looks (model prog w) hp (isInstance (.ref e) (.type "object")) true :=
    J.type.andThen (looks_mroIn KX (by unfold mroIn; rw [hcd, Option.bind_some, if_neg (by rw [hm]; simp), ob]))
  refine codeAny_call_builtin SF.slot.plain SF.entry (@check_slot (model prog w) _ _ ⟨hp, gs, dr, tk0, os⟩ "object.__setattr__" "object" "__setattr__" (.ref e) [.str nm tk, u] [] _ SF.kind SF.split sub (SF.args (.ref e) (.str nm tk) u) ?_)
  have lm : Looks (model prog w) hp (mroOf (.ref C)) cd.mro := (looks_clsIn KX hcd).andThen .now
  have lt : Looks (model prog w) hp (storeTaker? none) none := .now
  have lc : Looks (model prog w) hp (classData C) cd := looks_clsIn KX hcd
  rw [osa_eq, refuse_eq]
  refine wpAny_bind (wpAny_bind (J.type.at (wpAny_bind (lm.at ?_))))
  rw [hm, refuseLoop_ref, SF.passes]
  refine wpAny_pure (wpAny_bind (J.type.at (wpAny_bind ((looks_findIn KX no).at (wpAny_bind (lt.at ?_))))))
  show wpAny _ _ (storeInOwnDict (.ref e) (.ref C) (.str nm tk) nm u false) _ _ _
  obtain ⟨c1, c2, c3, c4, c5, c6, c7, c8, c9, c10, c11⟩ := cd
  dsimp only at hh
  subst hh
  unfold storeInOwnDict ownDictForStores
  repeat (first | with_reducible refine store_in_new ?_ ?_ | with_reducible refine wpAny_loadPart_at he ?_ | with_reducible refine lc.at ?_ | wp_step)
  · exact ⟨_, #[], _, (Heap.get?_update_ne _ _ _ _ en.symm).trans (Heap.get?_push_at rfl rfl), rfl, fun z hz => absurd hz (by simp), fun _ => rfl⟩
  · intro h' tk' hn' hs
    have he₁ : (hp.push { cls := .type "dict", data := .dict #[] }).get? e = some { cls := .ref C, data := .fields fv } := Heap.get?_push_of_some _ he
    refine k h' tk' hp.objs.size (fun b o hb ho => ?_) (Nat.le_refl _) en.symm ?_ hn'
    · exact (hs.2 b (Nat.ne_of_lt (Heap.lt_size ho))).trans ((Heap.get?_update_ne _ _ _ _ hb).trans (Heap.get?_push_of_some _ ho))
    · exact (hs.2 e en).trans (Heap.get?_update_self _ he₁ rfl)

/-- a further field -/
theorem field_more {nm : Str} {tk : Tok} {u : Value} {e C dx : Addr} {fv : Array Value} {cd : ClassData} {m0 : Str → Option Value} {nl : List Str} (SF : StoreFacts Bn mB "object.__setattr__" "object")
    (KX : K.In hp) (he : hp.get? e = some { cls := .ref C, dict := some dx, data := .fields fv }) (hns : hp.Ns1 dx m0) (hw : Within m0 nl) (hz : nl.length ≤ 1000) (hcd : clsIn K C = some cd) (hm : cd.mro = .ref C :: mB) (hh : cd.hasDict = true) (no : findIn K (.ref C) nm = some none)
    (k : ∀ h' tk', (∀ b o, b ≠ dx → hp.get? b = some o → h'.get? b = some o) → h'.Ns1 dx (fun z => if z = nm then some u else m0 z) → R (.ok (.ret .none)) ⟨h', gs, dr, tk', os⟩) :
    codeAny (model prog w) A (.call (.builtin "object.__setattr__") ⟨[.ref e, .str nm tk, u], []⟩) R ⟨hp, gs, dr, tk0, os⟩ := by
  obtain ⟨oD, esD, epD, hoD, hdD, _⟩ := hns.count hw
  have J : InstAt hp e { cls := .ref C, dict := some dx, data := .fields fv } C (some oD) := ⟨he, rfl, rfl, hoD⟩
  have ob : cd.mro.contains (.type "object") = true := by
    rw [hm, List.contains_cons, SF.hasOwner, Bool.or_true]
  have sub : Looks (model prog w) hp (isInstance (.ref e) (.type "object")) true :=
    J.type.andThen (looks_mroIn KX (by unfold mroIn; rw [hcd, Option.bind_some, if_neg (by rw [hm]; simp), ob]))
  refine codeAny_call_builtin SF.slot.plain SF.entry (@check_slot (model prog w) _ _ ⟨hp, gs, dr, tk0, os⟩ "object.__setattr__" "object" "__setattr__" (.ref e) [.str nm tk, u] [] _ SF.kind SF.split sub (SF.args (.ref e) (.str nm tk) u) ?_)
  have lm : Looks (model prog w) hp (mroOf (.ref C)) cd.mro := (looks_clsIn KX hcd).andThen .now
  have lt : Looks (model prog w) hp (storeTaker? none) none := .now
  have lc : Looks (model prog w) hp (classData C) cd := looks_clsIn KX hcd
  rw [osa_eq, refuse_eq]
  refine wpAny_bind (wpAny_bind (J.type.at (wpAny_bind (lm.at ?_))))
  rw [hm, refuseLoop_ref, SF.passes]
  refine wpAny_pure (wpAny_bind (J.type.at (wpAny_bind ((looks_findIn KX no).at (wpAny_bind (lt.at ?_))))))
  show wpAny _ _ (storeInOwnDict (.ref e) (.ref C) (.str nm tk) nm u false) _ _ _
  obtain ⟨c1, c2, c3, c4, c5, c6, c7, c8, c9, c10, c11⟩ := cd
  dsimp only at hh
  subst hh
  unfold storeInOwnDict ownDictForStores
  repeat (first | with_reducible refine PySem.OEX.store_in_old hns hw hz ?_ | with_reducible refine wpAny_loadPart_at he ?_ | with_reducible refine lc.at ?_ | wp_step)
  intro h' tk' hn' hs
  exact k h' tk' (fun b o hb ho => (hs.2 b hb).trans ho) hn'
end

/-! ### the making: by place, by name -/
section
variable {M : Model} {A : Around} {E : Value → Shared → Prop} {h : Heap} {gs : Array GenState} {dr : Drawn} {tk0 : Nat} {os : OsState}
variable {nm q : Str} {C N : Addr} {bs mB : List Value} {hd : Bool} {sn : List Str} {sub : List Value} {ab : Bool} {col : Option Bool} {dd : Option Addr} {k0 k1 k2 k3 k5 : Option Value} {Bn newId initId : String}
theorem new_checked (F : ExcBaseFacts Bn newId initId mB) {rest : List Value} {kws : List (Str × Value)} {Q : Unit → Shared → Prop} (hC : h.get? C = some (excClassObj nm q C N bs mB hd sn sub ab col dd k0 k1 k2 k3 k5 newId))
    (k : Q () ⟨h, gs, dr, tk0, os⟩) : wpAny M A (checkBuiltinCall newId ⟨.ref C :: rest, kws⟩) Q E ⟨h, gs, dr, tk0, os⟩ := by
  have has : (Value.ref C :: mB).contains (.type Bn) = true := by rw [List.contains_cons, F.hasB, Bool.or_true]
  have hshort := F.noStar
  simp only [checkBuiltinCall, F.newKind, F.newSplit, F.newRow]
  repeat (first | refine wpAny_loadPart_at hC ?_ | (refine wpAny_isSubtype_exc hC ?_; rw [has]) | refine wpAny_staticBase_exc hC ?_ | refine wpAny_madeBy_exc hC ?_ | simp only [bne_self_eq_false, Bool.false_eq_true, if_false] | wp_step)
  exact k
end
section
variable {prog : Program} {w : World} {A : Around} {E : Value → Shared → Prop} {R : Result → Shared → Prop} {h : Heap} {gs : Array GenState} {dr : Drawn} {tk0 : Nat} {os : OsState}
variable {nm q : Str} {C N : Addr} {bs mB : List Value} {hd : Bool} {sn : List Str} {sub : List Value} {ab : Bool} {col : Option Bool} {dd : Option Addr} {k0 k1 k2 k3 k5 : Option Value} {Bn newId initId : String}
theorem new_run (F : ExcBaseFacts Bn newId initId mB) {rest : List Value} {kws : List (Str × Value)} (hC : h.get? C = some (excClassObj nm q C N bs mB hd sn sub ab col dd k0 k1 k2 k3 k5 newId)) (hrest : rest.length ≤ sizeLine)
    (k : R (.ok (.ret (.ref (h.objs.size + 1)))) ⟨(h.push (kdv_tup rest)).push (excO C h.objs.size), gs, dr, tk0, os⟩) :
    codeAny (model prog w) A (.builtin newId ⟨.ref C :: rest, kws⟩) R ⟨h, gs, dr, tk0, os⟩ := by
  have hends := F.ends
  have has : (Value.ref C :: mB).contains (.type Bn) = true := by rw [List.contains_cons, F.hasB, Bool.or_true]
  have hasA : (Value.ref C :: mB).contains (.type "AttributeError") = false := by rw [List.contains_cons, F.noAttr]; rfl
  have hasN : (Value.ref C :: mB).contains (.type "NameError") = false := by rw [List.contains_cons, F.noName]; rfl
  refine codeAny_builtinAt F.entry ?_
  unfold Builtin.«BaseException.__new__»
  refine PySem.wpAt_bind ?_
  show PySem.wpAt _ _ _ (stack >>= _) _ _ _
  refine PySem.wpAt_bind (PySem.wpAt_stack fun p below => PySem.wpAt_of_wpAny ?_)
  wp_walk
  refine PySem.wpAt_of_wpAny ?_
  rw [F.owner]
  repeat (first | with_reducible refine wpAny_madeHere_exc F.canon hC ?_ | with_reducible refine wpAny_loadPart_at hC ?_ | (with_reducible refine wpAny_isSubtype_exc hC ?_; first | rw [has] | rw [hasA] | rw [hasN]) | wp_step)
  show R _ _
  rw [Heap.size_push]
  exact k
theorem typecall (F : ExcBaseFacts Bn newId initId mB) {rest : List Value} {kws : List (Str × Value)} {fI : Addr} {Q : Fin → Shared → Prop} (hC : h.get? C = some (excClassObj nm q C N bs mB hd sn sub ab col dd k0 k1 k2 k3 k5 newId))
    (hi : Looks (model prog w) h (typeLookup (.ref C) "__init__") (some (.ref fI))) (hb : ∀ self, Looks (model prog w) h (bindSpecial (.ref fI) self) (.ref fI, [self])) (hrest : rest.length ≤ sizeLine)
    (run : codeAny (model prog w) A (.call (.ref fI) ⟨.ref (h.objs.size + 1) :: rest, kws⟩)
      (fun r s' => match r with | .ok (.ret v) => v = .none ∧ Q (.done (.ret (.ref (h.objs.size + 1)))) s' | .ok _ => False | .error e => E e s') ⟨(h.push (kdv_tup rest)).push (excO C h.objs.size), gs, dr, tk0, os⟩) :
    wpAny (model prog w) A (Builtin.«type.__call__» ⟨.ref C :: rest, kws⟩) Q E ⟨h, gs, dr, tk0, os⟩ := by
  repeat (first | with_reducible refine wpAny_loadPart_at hC ?_ | with_reducible refine wpAny_madeBy_exc hC ?_ | wp_step)
  refine codeAny_call_builtin_code (Code.quiet_builtin _ F.quiet) (new_checked F hC ?_)
  refine new_run F hC hrest ?_
  show wpAny _ _ _ _ _ _
  have kp : ∀ b o, h.get? b = some o → ((h.push (kdv_tup rest)).push (excO C h.objs.size)).get? b = some o := fun b o e => Heap.get?_push_of_some _ (Heap.get?_push_of_some _ e)
  have hC₁ := kp _ _ hC
  have hat : ((h.push (kdv_tup rest)).push (excO C h.objs.size)).get? (h.objs.size + 1) = some (excO C h.objs.size) := by heap_get
  have hself : (Value.ref C :: mB).contains (.ref C) = true := by simp
  have i1 := hi.keeps kp
  have b1 := (hb (.ref (h.objs.size + 1))).keeps kp
  unfold isInstance
  repeat (first | with_reducible refine wpAny_loadPart_at hat ?_ | (with_reducible refine wpAny_isSubtype_exc hC₁ ?_; rw [hself]) | wp_step)
  show wpAny _ _ (typeLookup (.ref C) _) _ _ _
  refine i1.at ?_
  refine wpAny_holding (wpAny_bind (b1.at ?_))
  refine wpAny_bind (wpAny_call (codeAny_mono run fun r s' z => ?_))
  rcases r with e | (v | _ | _ | _) <;> first | exact z | exact z.elim | skip
  obtain ⟨rfl, z⟩ := z
  first
    | exact wpAny_pure (wpAny_pure z)
    | (wp_walk; exact z)
theorem call_checked {M : Model} {rest : List Value} {kws : List (Str × Value)} {Q : Unit → Shared → Prop} (hC : h.get? C = some (excClassObj nm q C N bs mB hd sn sub ab col dd k0 k1 k2 k3 k5 newId)) (k : Q () ⟨h, gs, dr, tk0, os⟩) :
    wpAny M A (checkBuiltinCall "type.__call__" ⟨.ref C :: rest, kws⟩) Q E ⟨h, gs, dr, tk0, os⟩ := by
  have f3 := tc_sub
  have hTy : (⟨h, gs, dr, tk0, os⟩ : Shared).TypeIs (.ref C) "type" := ⟨_, hC, rfl⟩
  simp only [checkBuiltinCall, tc_kind, tc_split]
  repeat (any_goals (first | assumption | with_reducible refine wpAny_loadPart_at hC ?_ | with_reducible refine wpAny_onRaise ?_ | with_reducible refine wpAny_map ?_ | wp_step))
theorem made (F : ExcBaseFacts Bn newId initId mB) {rest : List Value} {kws : List (Str × Value)} {fI : Addr} (hC : h.get? C = some (excClassObj nm q C N bs mB hd sn sub ab col dd k0 k1 k2 k3 k5 newId))
    (hi : Looks (model prog w) h (typeLookup (.ref C) "__init__") (some (.ref fI))) (hb : ∀ self, Looks (model prog w) h (bindSpecial (.ref fI) self) (.ref fI, [self])) (hrest : rest.length ≤ sizeLine)
    (run : codeAny (model prog w) (A.under (.builtin "type.__call__" ⟨.ref C :: rest, kws⟩)) (.call (.ref fI) ⟨.ref (h.objs.size + 1) :: rest, kws⟩) (InitBack (h.objs.size + 1) R) ⟨(h.push (kdv_tup rest)).push (excO C h.objs.size), gs, dr, tk0, os⟩) :
    codeAny (model prog w) A (.call (.ref C) ⟨rest, kws⟩) R ⟨h, gs, dr, tk0, os⟩ := by
  have f1 := tc_lookup
  have f2 := tc_bind (.ref C)
  have hTy : (⟨h, gs, dr, tk0, os⟩ : Shared).TypeIs (.ref C) "type" := ⟨_, hC, rfl⟩
  refine codeAny_of_tree ?_
  show wpAny _ _ (callAny (.ref C) _) _ _ _
  repeat (any_goals (first | assumption | with_reducible refine wpAny_loadPart_at hC ?_ | wp_step))
  refine ⟨rfl, ?_⟩
  refine codeAny_call_builtin_at (Code.quiet_builtin _ (by decide +kernel)) entry_typeCall (call_checked hC (typecall F hC hi hb hrest ?_))
  refine codeAny_mono run fun r s' z => ?_
  rcases r with e | (v | _ | _ | _) <;> exact z
end
end Ee

set_option maxRecDepth 100000
set_option maxHeartbeats 4000000
/-! errors kept as values, at the hand layer's level -/
namespace Ee
open PySem PySem.Spec PyProof.Rows L2 Gd Dl
open Evl (Ex Ex.refl Ex.trans Ex.new ex_l ex_t sq_of st_of fresh_back)

/-- what the written part says of an error class that stands straight over a built-in one -/
structure ErrC (K : PySem.W.Frag) (C : Addr) : Prop where
  cls : ∃ nm q N bs sn sub ab col dd k0 k1 k2 k3 k5 Bn newId initId mB, K.lookup C = some (excClassObj nm q C N bs mB true sn sub ab col dd k0 k1 k2 k3 k5 newId) ∧ ExcBaseFacts Bn newId initId mB ∧ StoreFacts Bn mB "object.__setattr__" "object"
  sa : PySem.W.findIn K (.ref C) "__setattr__" = some (some (.builtin "object.__setattr__"))
  ga : PySem.W.findIn K (.ref C) "__getattribute__" = some (some (.builtin "BaseException.__getattribute__"))
  gg : PySem.W.findIn K (.ref C) "__getattr__" = some none
  exC : PySem.W.subIn K (.ref C) (.type "BaseException") = some true
  kC : PySem.W.keepIn K (.ref C) = true
  hdC : PySem.W.hasDictIn K C = true
  ca : PySem.W.findIn K (.ref C) "__class__" = some (some (.builtin "object.__class__"))
  gn : PySem.W.specialIn K (.builtin "object.__class__") "__get__" = some (some (.builtin "getset_descriptor.__get__"))
  tk : PySem.W.takesIn K (.builtin "object.__class__") = some true
  mo : PySem.W.mroIn K C (.type "object") = some true

section
variable {X : Cx} {pins : List (Addr × Obj)} {σ : L2.St} {H : Hp} {s : Shared} {a C dx : Addr} {f : Str} {y : V} {u : Value} {fs : List (Str × V)} {Q : Unit → Shared → Prop} {E : Value → Shared → Prop} {A : Around}
theorem put_first (T : ErrC X.K C) (I : Inv X pins σ H s) (e : H a = some (exo a C none)) (no : PySem.W.findIn X.K (.ref C) f = some none) (ry : RelV y u)
    (k : ∀ dx s', H dx = none → dx ≠ a → Inv X pins σ (upd (upd H dx (exd dx [(f, y)])) a (exo a C (some dx))) s' → Q () s') : wpAny (model X.prog X.w) A (setAttr (.ref a) f u) Q E s := by
  obtain ⟨nm, q, N, bs, sn, sub, ab, col, dd, k0, k1, k2, k3, k5, Bn, newId, initId, mB, hC, FB, SF⟩ := T.cls
  have hcl : PySem.W.clsIn X.K C = some { name := nm, bases := bs, mro := .ref C :: mB, ns := N, qualname := q, hasDict := true, slotNames := sn, subclasses := sub, abstract := ab, collection := col, hasDel := false } := by unfold PySem.W.clsIn; rw [hC] <;> rfl
  obtain ⟨t1, ho⟩ := exo_at I.hok e
  obtain ⟨hp, gs, dr, t, os⟩ := s
  refine PySem.W.set_plain I.kIn (ox := { cls := .ref C, dict := none, data := .fields #[.ref t1, .none, .none, .none, .bool false, .none] }) (od := none) ⟨ho, rfl, rfl, trivial⟩ T.sa ?_
  refine field_first SF I.kIn ho hcl rfl rfl no (fun h' tk' dx kp dn dne hx hn => ?_)
  have hnd : H dx = none := I.hok.fresh dn
  have nd : ∀ {b : Addr} {o : Obj}, hp.get? b = some o → b ≠ dx := fun {b o} z => Nat.ne_of_lt (Nat.lt_of_lt_of_le (Heap.lt_size z) dn)
  have na : ∀ {b : Addr}, H b = none → b ≠ a := fun {b} n z => by
    rw [z, e] at n
    cases n
  have un : Un X.fs [] H (upd (upd H dx (exd dx [(f, y)])) a (exo a C (some dx))) hp h' := {
    keep := fun b o z n _ _ => kp b o (na n) z
    slot := fun b o z n _ _ => ⟨o.slots, kp b o (na n) z⟩
    free := fun b o z n _ => by rw [upd_ne (na n), upd_ne (nd z)]; exact n
    there := fun b o z _ => by
      by_cases hb : b = a
      · exact ⟨_, by rw [hb]; exact hx⟩
      · exact ⟨o, kp b o hb z⟩
    tups := fun b xs z => by rw [upd_ne (at_ne e z exo_tup), upd_ne (ne_of_none z hnd)]; exact z
    frzs := fun b o v z => by rw [upd_ne (at_ne e z exo_frz), upd_ne (ne_of_none z hnd)]; exact z
    tbls := fun b ps z => ⟨#[], by rw [upd_ne (at_ne e z exo_tbl), upd_ne (ne_of_none z hnd), z]; simp⟩ }
  refine k dx _ hnd dne (I.un (t' := tk') un fun b o z => ?_)
  by_cases hb : b = a
  · subst hb
    rw [upd_same] at z
    cases z
    exact exo_ok hx
  · rw [upd_ne hb] at z
    by_cases hd : b = dx
    · subst hd
      rw [upd_same] at z
      cases z
      exact exd_ok hn (relO_put (fs := []) ry fun g => True.intro)
    · rw [upd_ne hd] at z
      refine (I.hok b o z).stay (fun c v hc r => kp c v ?_ r) (fun c hc => ?_) (fun c xs hc => ?_)
      · rcases hc with hc | hc
        · rw [hc]
          exact hb
        · exact at_ne e hc exo_own
      · rw [upd_ne (at_ne e hc exo_own), upd_ne (ne_of_none hc hnd)]
        exact hc
      · rw [upd_ne (at_ne e hc exo_tup), upd_ne (ne_of_none hc hnd)]
        exact hc
theorem put_more (T : ErrC X.K C) (I : Inv X pins σ H s) (e : H a = some (exo a C (some dx))) (ed : H dx = some (exd dx fs)) (hl : fs.length ≤ 900) (no : PySem.W.findIn X.K (.ref C) f = some none) (ry : RelV y u)
    (k : ∀ s', Inv X pins σ (upd H dx (exd dx ((f, y) :: fs))) s' → Q () s') : wpAny (model X.prog X.w) A (setAttr (.ref a) f u) Q E s := by
  obtain ⟨nm, q, N, bs, sn, sub, ab, col, dd, k0, k1, k2, k3, k5, Bn, newId, initId, mB, hC, FB, SF⟩ := T.cls
  have hcl : PySem.W.clsIn X.K C = some { name := nm, bases := bs, mro := .ref C :: mB, ns := N, qualname := q, hasDict := true, slotNames := sn, subclasses := sub, abstract := ab, collection := col, hasDel := false } := by unfold PySem.W.clsIn; rw [hC] <;> rfl
  obtain ⟨t1, ho⟩ := exo_at I.hok e
  obtain ⟨mA, hns, rel⟩ := exd_at I.hok ed
  have hw := within_of rel
  obtain ⟨hp, gs, dr, t, os⟩ := s
  obtain ⟨oD, _, _, hoD, _, _⟩ := hns.count hw
  refine PySem.W.set_plain I.kIn (ox := { cls := .ref C, dict := some dx, data := .fields #[.ref t1, .none, .none, .none, .bool false, .none] }) (od := some oD) ⟨ho, rfl, rfl, hoD⟩ T.sa ?_
  refine field_more SF I.kIn ho hns hw (by rw [List.length_map]; omega) hcl rfl rfl no (fun h' tk' kp hn => ?_)
  have hd : ∃ o, h'.get? dx = some o := by
    obtain ⟨o, _, _, e', _⟩ := hn
    exact ⟨o, e'⟩
  exact k _ (I.write (t' := tk') (x := dx) (e := dx) (o := exd dx ((f, y) :: fs)) (by rw [ed]; exact True.intro) (.inl rfl) kp hd (exd_ok hn (relO_put ry rel)))
end

/-! ### readings and rules -/
/-- self.f = e, self an error that is being made -/
def tPut (K : PySem.W.Frag) (f : Str) (to te : TE) : TS := fun D σ H => te σ H fun y H1 => to σ H1 fun x H2 => ∃ a C : Addr, x = .ref a ∧ ErrC K C ∧ PySem.W.findIn K (.ref C) f = some none ∧
  ((H2 a = some (exo a C none) ∧ ∀ dx, H2 dx = none → dx ≠ a → D.nx σ (upd (upd H2 dx (exd dx [(f, y)])) a (exo a C (some dx)))) ∨
    ∃ (dx : Addr) (fs : List (Str × V)), H2 a = some (exo a C (some dx)) ∧ H2 dx = some (exd dx fs) ∧ fs.length ≤ 900 ∧ D.nx σ (upd H2 dx (exd dx ((f, y) :: fs))))
/-- C(..), its own __init__ keeping sp: what stands at a place, what goes by name -/
def tErr (C : Addr) (n m : Nat) (sp : Sp) (gV : List V → List V → List V) (t tk : TA) : TE := fun σ H Q => t σ H fun vs H1 => tk σ H1 fun zs H2 => vs.length = n ∧ zs.length = m ∧
  ∀ a, H2 a = none → sp (gV (.ref a :: vs) zs) (upd H2 a (exo a C none)) (fun v H3 => v = .non ∧ Q (.ref a) H3) E0
/-- e.f -/
def tFld (K : PySem.W.Frag) (f : Str) (te : TE) : TE := fun σ H Q => te σ H fun x H1 => ∃ (a C dx : Addr) (fs : List (Str × V)) (v : V), x = .ref a ∧ H1 a = some (exo a C (some dx)) ∧ H1 dx = some (exd dx fs) ∧ ErrC K C ∧ PySem.W.findIn K (.ref C) f = some none ∧ fs.lookup f = some v ∧ Q v H1
/-- isinstance(e, T) -/
def rIsErr (K : PySem.W.Frag) : List V → Hp → VK → Prop := fun xs H Q => ∃ (a C : Addr) (d : Option Addr) (c : V) (cv : Value) (b : Bool), xs = [.ref a, c] ∧ H a = some (exo a C d) ∧ (∀ dx, d = some dx → ∃ fs, H dx = some (exd dx fs)) ∧ ErrC K C ∧
  ClsV c cv ∧ PySem.W.kitOne K (.ref C) cv = some b ∧ Q (.bl b) H
section
variable {X : Cx} {o e : Expr} {es : List Expr} {kws : List Keyword} {to te : TE} {t tk : TA} {f x : Str} {p p' pos : Pos} {k n : Nat} {C fI : Addr} {fd : FuncData} {ps ks : List Str} {sp : Sp} {g : List Value → List Value → List Value} {gV : List V → List V → List V}
theorem ps_put (ho : PE X o to) (he : PE X e te) (hs : swapsWith e (some (.Attribute o f p')) pos.line X.env = pure false := by rfl) : PS X (.Assign [.Attribute o f p'] e pos) (tPut X.K f to te) := by
  constructor
  intro pins s σ H D I h
  refine plainObj_wpAny_Assign_Attribute (thn (he.run pins s σ H _ I h) fun v s1 ⟨y, H1, I1, r1, q1⟩ => thn (ho.run pins s1 σ H1 _ I1 q1) fun u s2 ⟨z, H2, I2, r2, a, C, ex, T, no, q⟩ => ?_) hs
  subst ex
  obtain rfl : u = Value.ref a := r2
  rcases q with ⟨ea, q⟩ | ⟨dx, fs, ea, ed, hl, q⟩
  · exact put_first T I2 ea no r1 fun dx s' n1 n2 J => ⟨σ, _, J, q dx n1 n2⟩
  · exact put_more T I2 ea ed hl no r1 fun s' J => ⟨σ, _, J, q⟩
theorem kbn_all (hb : L2.Binds X.K fd ps []) (hn : ps.length = n) : KBn X.K fd ps n [] (fun us _ => us) (fun vs _ => vs) :=
  ⟨fun s us ws KX l1 l2 => by
    have q := hb s us KX (by rw [List.append_nil, l1, hn])
    rw [List.append_nil] at q
    rw [List.zip_nil_left]
    exact q, fun r _ => r⟩
theorem err_run {pins : List (Addr × Obj)} {σ : L2.St} {H : Hp} {s : Shared} {Q : VK} {us ws : List Value} {vs zs : List V} (T : ErrC X.K C) (iC : PySem.W.findIn X.K (.ref C) "__init__" = some (some (.ref fI))) (tI : PySem.W.typeIn X.K (.ref fI) = some (.type "function"))
    (F : FnOk X.prog X.w X.K X.mg X.base CX0 k fI fd ps sp) (hr : Room (k + 1) X.A) (hb : KBn X.K fd ps (n + 1) ks g gV) (I : Inv X pins σ H s) (r : Vals vs us) (rz : Vals zs ws) (l1 : vs.length = n) (l2 : zs.length = ks.length) (hz : n ≤ 1000)
    (h : ∀ a, H a = none → sp (gV (.ref a :: vs) zs) (upd H a (exo a C none)) (fun v H2 => v = .non ∧ Q (.ref a) H2) E0) : wpAny (model X.prog X.w) X.A (call (.ref C) us (ks.zip ws)) (EP X pins σ Q) X.xe s := by
  obtain ⟨nm, q, N, bs, sn, sub, ab, col, dd, k0, k1, k2, k3, k5, Bn, newId, initId, mB, hC, FB, SF⟩ := T.cls
  obtain ⟨hp, gs, dr, tt, os⟩ := s
  have hsz : hp.objs.size ≤ hp.objs.size + 1 := Nat.le_succ _
  have hq := h (hp.objs.size + 1) (I.hok.fresh hsz)
  have kk : ∀ b o, hp.get? b = some o → ((hp.push (PySem.W.kdv_tup us)).push (PySem.HandSPX.excO C hp.objs.size)).get? b = some o := fun b o e => Heap.get?_push_of_some _ (Heap.get?_push_of_some _ e)
  have hat : ((hp.push (PySem.W.kdv_tup us)).push (PySem.HandSPX.excO C hp.objs.size)).get? (hp.objs.size + 1) = some (PySem.HandSPX.excO C hp.objs.size) := by heap_get
  have I2 : Inv X pins σ (upd H (hp.objs.size + 1) (exo (hp.objs.size + 1) C none)) ⟨(hp.push (PySem.W.kdv_tup us)).push (PySem.HandSPX.excO C hp.objs.size), gs, dr, tt, os⟩ :=
    I.laid (t' := tt) (a := hp.objs.size + 1) (o := exo (hp.objs.size + 1) C none) (h' := (hp.push (PySem.W.kdv_tup us)).push (PySem.HandSPX.excO C hp.objs.size)) kk hsz (exo_ok hat)
  have r1 : Vals (V.ref (hp.objs.size + 1) :: vs) (Value.ref (hp.objs.size + 1) :: us) := .cons rfl r
  have n1 : (Value.ref (hp.objs.size + 1) :: us).length = n + 1 := by rw [List.length_cons, ← r.length, l1]
  have hus : us.length ≤ sizeLine := by
    rw [← r.length, l1, sizeLine_eq]
    omega
  refine wpAny_call (made FB (I.kIn _ _ hC) (PySem.W.looks_findIn I.kIn iC) (fun self => PySem.W.bind_fn I.kIn self tI) hus
    (codeAny_mono (F.run _ X.stack _ _ ⟨Value.ref (hp.objs.size + 1) :: us, ks.zip ws⟩ (g (Value.ref (hp.objs.size + 1) :: us) ws) _ _ E0 (hr.make C us (ks.zip ws)) (I2.env0.make C us (ks.zip ws))
      (hb.to _ (Value.ref (hp.objs.size + 1) :: us) ws I2.kIn n1 (rz.length.symm.trans l2)) (hb.rel r1 rz) hq) fun r s' hq' => ?_))
  cases r with
  | error er => exact hq'.elim
  | ok fl =>
    cases fl with
    | ret u =>
      obtain ⟨v, H', I3, rv, ev, q3⟩ := I2.after hq'
      subst ev
      exact ⟨rv, ⟨V.ref (hp.objs.size + 1), H', I3, rfl, q3⟩⟩
    | next => exact False.elim hq'
    | brk => exact False.elim hq'
    | cont => exact False.elim hq'
theorem pe_err (T : ErrC X.K C) (iC : PySem.W.findIn X.K (.ref C) "__init__" = some (some (.ref fI))) (tI : PySem.W.typeIn X.K (.ref fI) = some (.type "function")) (F : FnOk X.prog X.w X.K X.mg X.base CX0 k fI fd ps sp) (hr : Room (k + 1) X.A)
    (hb : KBn X.K fd ps (n + 1) [] g gV) (hz : n ≤ 1000) (hg : Gl X x) (hm : X.mg x = some (.ref C)) (ha : PA X (e :: es) t) (hdb : (x == ("__debug__" : Str)) = false := by decide)
    (he : starEach (e :: es) X.env = (false, eval e X.env) :: starEach es X.env := by rfl) (hpl : (backTo pos (starEach es X.env)).any (·.1) = false := by rfl) : PE X (.Call (.Name x p) (e :: es) [] pos) (tErr C n 0 sp gV t tNil) := by
  constructor
  intro pins s σ H Q I h
  refine wpAny_Call_Name_kw (ld_glob I hg hm ?_ hdb)
  refine PySem.W.callWith_K (h₀ := X.base) I.ok.mod.kin T.kC (thn (ha.run pos pins s σ H _ I h) fun us s1 ⟨vs, H1, I1, r, l1, l2, q⟩ => ⟨I1.kIn, ?_⟩) he hpl
  exact err_run (ks := []) (ws := []) (zs := []) T iC tI F hr hb I1 r .nil l1 rfl hz q
theorem pe_err0 (T : ErrC X.K C) (iC : PySem.W.findIn X.K (.ref C) "__init__" = some (some (.ref fI))) (tI : PySem.W.typeIn X.K (.ref fI) = some (.type "function")) (F : FnOk X.prog X.w X.K X.mg X.base CX0 k fI fd ps sp) (hr : Room (k + 1) X.A)
    (hb : KBn X.K fd ps (0 + 1) [] g gV) (hg : Gl X x) (hm : X.mg x = some (.ref C)) (hdb : (x == ("__debug__" : Str)) = false := by decide) : PE X (.Call (.Name x p) [] [] pos) (tErr C 0 0 sp gV tNil tNil) := by
  constructor
  intro pins s σ H Q I h
  refine wpAny_Call_Name_kw (ld_glob I hg hm ?_ hdb)
  obtain ⟨l1, l2, q⟩ := h
  exact PySem.W.callWith_K0 I.kIn T.kC (err_run (us := []) (ks := []) (ws := []) (zs := []) T iC tI F hr hb I .nil .nil l1 rfl (Nat.zero_le _) q)
theorem pe_errk (T : ErrC X.K C) (iC : PySem.W.findIn X.K (.ref C) "__init__" = some (some (.ref fI))) (tI : PySem.W.typeIn X.K (.ref fI) = some (.type "function")) (F : FnOk X.prog X.w X.K X.mg X.base CX0 k fI fd ps sp) (hr : Room (k + 1) X.A)
    (hb : KBn X.K fd ps (0 + 1) ks g gV) (hg : Gl X x) (hm : X.mg x = some (.ref C)) (hkw : PK X kws tk) (hall : (backToKw pos (keywordEach kws X.env)).all (·.1.isSome) = true := by rfl) (hks : (backToKw pos (keywordEach kws X.env)).filterMap (·.1) = ks := by rfl)
    (hdb : (x == ("__debug__" : Str)) = false := by decide) (hpl : ((backTo pos (starEach [] X.env)).any (·.1) || (backToKw pos (keywordEach kws X.env)).any (·.1.isNone)) = false := by rfl) : PE X (.Call (.Name x p) [] kws pos) (tErr C 0 ks.length sp gV tNil tk) := by
  constructor
  intro pins s σ H Q I h
  refine wpAny_Call_Name_kw (ld_glob I hg hm ?_ hdb)
  refine PySem.W.callWith_KW0 (h₀ := X.base) I.ok.mod.kin T.kC hall (thn (hkw.run pos pins s σ H _ I h) fun ws s2 ⟨zs, H2, I2, rz, l1, l2, q2⟩ => ⟨I2.kIn, ?_⟩) hpl
  rw [hks]
  exact err_run (us := []) (vs := []) T iC tI F hr hb I2 .nil rz l1 l2 (Nat.zero_le _) q2
theorem pe_fld (he : PE X e te) (hb : attributeBase e f X.env (eval e X.env) = eval e X.env := by rfl) : PE X (.Attribute e f pos) (tFld X.K f te) := by
  constructor
  intro pins s σ H Q I h
  refine attr_of hb (thn (he.run pins s σ H _ I h) fun u s1 hh => ?_)
  obtain ⟨z, H1, I1, rx, a, C, dx, fs, v, ez, ea, ed, T, no, l, q⟩ := hh
  subst ez
  obtain rfl : u = Value.ref a := rx
  obtain ⟨t1, ho⟩ := exo_at I1.hok ea
  obtain ⟨mA, hns, rel⟩ := exd_at I1.hok ed
  obtain ⟨od, hod, hl⟩ := lookIn_ns hns
  obtain ⟨u, hu, ru⟩ := RelO.some_of (v := v) (o := mA f) (by rw [← l]; exact rel f)
  have J : PySem.W.InstAt s1.heap a { cls := .ref C, dict := some dx, data := .fields #[.ref t1, .none, .none, .none, .bool false, .none] } C (some od) := ⟨ho, rfl, rfl, hod⟩
  exact PySem.HandSPX.exc_get I1.kIn J T.ga T.gg T.exC (PySem.W.findObj_own T.hdC no rfl (by rw [hl, hu])) (handed_of ru) ⟨v, H1, I1.tok _, ru, q⟩
theorem call_isErr : CallR X (.builtin "isinstance") (rIsErr X.K) := by
  intro pins s σ H xs us Q I r h
  obtain ⟨a, C, d, c, cv, b, rfl, ea, ed, T, hc, hk, q⟩ := h
  obtain ⟨u1, u2, rfl, r1, r2⟩ := vals2 r
  have e2 := hc.eq r2
  subst e2
  obtain rfl : u1 = Value.ref a := r1
  obtain ⟨t1, ho⟩ := exo_at I.hok ea
  have hcl : (PySem.W.clsIn X.K C).isSome = true := by
    obtain ⟨nm, q, N, bs, sn, sub, ab, col, dd, k0, k1, k2, k3, k5, Bn, newId, initId, mB, hC, FB, SF⟩ := T.cls
    unfold PySem.W.clsIn
    rw [hC] <;> rfl
  have fin : ∀ od, PySem.W.InstAt s.heap a { cls := .ref C, dict := d, data := .fields #[.ref t1, .none, .none, .none, .bool false, .none] } C od → wpAny (model X.prog X.w) X.A (call (.builtin "isinstance") [.ref a, u2]) (EP X pins σ Q) X.xe s := fun od J =>
    PySem.W.kia_one (PySem.W.kitx_exc hcl T.ga T.gg T.exC T.ca T.gn T.tk T.mo) I.kIn J hk (fun z => nomatch z) fun tk => ⟨.bl b, H, I.kept (t' := tk) fun _ _ z => z, rfl, q⟩
  cases d with
  | none => exact fin none ⟨ho, rfl, rfl, trivial⟩
  | some dx =>
    obtain ⟨fs, ef⟩ := ed dx rfl
    obtain ⟨mA, hns, rel⟩ := exd_at I.hok ef
    obtain ⟨oD, _, _, hoD, _, _⟩ := hns.count (within_of rel)
    exact fin (some oD) ⟨ho, rfl, rfl, hoD⟩
end
end Ee

set_option maxRecDepth 100000
set_option maxHeartbeats 4000000
/-! errors kept as values, by data -/
namespace Ee
open PySem PySem.Spec PyProof.Rows L2 Gd Dl
open Evl (Ex Ex.refl Ex.trans Ex.new ex_l ex_t sq_of st_of fresh_back)

/-! ### what the classes' own __init__ do -/
def sp0 : Sp := fun vs H Q _ => ∃ a : Addr, vs = [.ref a] ∧ Q .non H
def sp1 (C : Addr) (f : Str) : Sp := fun vs H Q _ => ∃ (a : Addr) (y : V), vs = [.ref a, y] ∧ H a = some (exo a C none) ∧ ∀ dx, H dx = none → dx ≠ a → Q .non (upd (upd H dx (exd dx [(f, y)])) a (exo a C (some dx)))
def sp2 (C : Addr) (f g : Str) : Sp := fun vs H Q _ => ∃ (a : Addr) (y z : V), vs = [.ref a, y, z] ∧ H a = some (exo a C none) ∧
  ∀ dx, H dx = none → dx ≠ a → Q .non (upd (upd (upd H dx (exd dx [(f, y)])) a (exo a C (some dx))) dx (exd dx [(g, z), (f, y)]))
theorem pure1 {K : PySem.W.Frag} {C : Addr} {f : Str} (T : ErrC K C) (no : PySem.W.findIn K (.ref C) f = some none) (vs : List V) (H : Hp) (Q : VK) (E : XK) (h : sp1 C f vs H Q E) :
    tPut K f (tVar 0) (tVar 1) { nx := fun _ H' => Q .non H', rt := Q } (start ["self", f] vs) H := by
  obtain ⟨a, y, rfl, ha, q⟩ := h
  exact ⟨_, rfl, _, rfl, a, C, rfl, T, no, .inl ⟨ha, q⟩⟩
theorem pure2 {K : PySem.W.Frag} {C : Addr} {f g : Str} (T : ErrC K C) (n1 : PySem.W.findIn K (.ref C) f = some none) (n2 : PySem.W.findIn K (.ref C) g = some none) (vs : List V) (H : Hp) (Q : VK) (E : XK) (h : sp2 C f g vs H Q E) :
    tSeq (tPut K f (tVar 0) (tVar 1)) (tPut K g (tVar 0) (tVar 2)) { nx := fun _ H' => Q .non H', rt := Q } (start ["self", f, g] vs) H := by
  obtain ⟨a, y, z, rfl, ha, q⟩ := h
  refine ⟨_, rfl, _, rfl, a, C, rfl, T, n1, .inl ⟨ha, fun dx hd hn => ?_⟩⟩
  refine ⟨_, rfl, _, rfl, a, C, rfl, T, n2, .inr ⟨dx, [(f, y)], upd_same, ?_, Nat.le_of_ble_eq_true rfl, q dx hd hn⟩⟩
  rw [upd_ne hn]
  exact upd_same

/-- what an error class of the text gives its callers: mB its bases, p its fields' promise -/
structure Err (P : Program) (w : World) (K : PySem.W.Frag) (mg : Str → Option Value) (base : Heap) (x : Str) (C : Addr) (mB : List Value) (fs : List Str) (sp : Sp) : Prop where
  at_ : mg x = some (.ref C)
  T : ErrC K C
  mro : ∃ cd, PySem.W.clsIn K C = some cd ∧ cd.mro = .ref C :: mB
  ty : PySem.W.typeIn K (.ref C) = some (.type "type")
  no : ∀ f ∈ fs, PySem.W.findIn K (.ref C) f = some none
  init : ∃ (fI : Addr) (fd : FuncData), PySem.W.findIn K (.ref C) "__init__" = some (some (.ref fI)) ∧ PySem.W.typeIn K (.ref fI) = some (.type "function") ∧ FnOk P w K mg base CX0 1 fI fd ("self" :: fs) sp ∧ L2.Binds K fd ("self" :: fs) [] ∧
    (∀ f g, fs = [f, g] → KBn K fd ["self", f, g] 1 [g, f] (fun us ws => us ++ ws.reverse) (fun vs zs => vs ++ zs.reverse)) ∧ (∀ f, fs = [f] → KBn K fd ["self", f] 1 [f] (fun us ws => us ++ ws) (fun vs zs => vs ++ zs))
section
variable {X : Cx} {x f g : Str} {C : Addr} {mB : List Value} {e e2 : Expr} {t : TA} {te : TE} {p pos kp : Pos}
theorem pe_E0 (c : Err X.prog X.w X.K X.mg X.base x C mB [] sp0) (hr : Room 2 X.A) (hg : Gl X x) (hdb : (x == ("__debug__" : Str)) = false := by decide) : PE X (.Call (.Name x p) [] [] pos) (tErr C 0 0 sp0 (fun vs _ => vs) tNil tNil) := by
  obtain ⟨fI, fd, h1, h2, h3, h4, _⟩ := c.init
  exact pe_err0 c.T h1 h2 h3 hr (kbn_all h4 rfl) hg c.at_ hdb
theorem pe_E1 (c : Err X.prog X.w X.K X.mg X.base x C mB [f] (sp1 C f)) (hr : Room 2 X.A) (hg : Gl X x) (ha : PA X [e] t) (hdb : (x == ("__debug__" : Str)) = false := by decide)
    (he : starEach [e] X.env = (false, eval e X.env) :: starEach [] X.env := by rfl) (hpl : (backTo pos (starEach [] X.env)).any (·.1) = false := by rfl) : PE X (.Call (.Name x p) [e] [] pos) (tErr C 1 0 (sp1 C f) (fun vs _ => vs) t tNil) := by
  obtain ⟨fI, fd, h1, h2, h3, h4, _⟩ := c.init
  exact pe_err c.T h1 h2 h3 hr (kbn_all h4 rfl) (by decide) hg c.at_ ha hdb he hpl
theorem pe_E2 (c : Err X.prog X.w X.K X.mg X.base x C mB [f, g] (sp2 C f g)) (hr : Room 2 X.A) (hg : Gl X x) (ha : PA X [e, e2] t) (hdb : (x == ("__debug__" : Str)) = false := by decide)
    (he : starEach [e, e2] X.env = (false, eval e X.env) :: starEach [e2] X.env := by rfl) (hpl : (backTo pos (starEach [e2] X.env)).any (·.1) = false := by rfl) : PE X (.Call (.Name x p) [e, e2] [] pos) (tErr C 2 0 (sp2 C f g) (fun vs _ => vs) t tNil) := by
  obtain ⟨fI, fd, h1, h2, h3, h4, _⟩ := c.init
  exact pe_err c.T h1 h2 h3 hr (kbn_all h4 rfl) (by decide) hg c.at_ ha hdb he hpl
theorem pe_E1k (c : Err X.prog X.w X.K X.mg X.base x C mB [f] (sp1 C f)) (hr : Room 2 X.A) (hg : Gl X x) (ha : PE X e te) (hall : (backToKw pos (keywordEach [⟨some f, e, kp⟩] X.env)).all (·.1.isSome) = true := by rfl)
    (hks : (backToKw pos (keywordEach [⟨some f, e, kp⟩] X.env)).filterMap (·.1) = [f] := by rfl) (hdb : (x == ("__debug__" : Str)) = false := by decide) (hpl : ((backTo pos (starEach [] X.env)).any (·.1) || (backToKw pos (keywordEach [⟨some f, e, kp⟩] X.env)).any (·.1.isNone)) = false := by rfl) :
    PE X (.Call (.Name x p) [] [⟨some f, e, kp⟩] pos) (tErr C 0 1 (sp1 C f) (fun vs zs => vs ++ zs) tNil (tCons te tNil)) := by
  obtain ⟨fI, fd, h1, h2, h3, h4, _, h6⟩ := c.init
  exact pe_errk (ks := [f]) c.T h1 h2 h3 hr (h6 f rfl) hg c.at_ (pk_cons ha pk_nil) hall hks hdb hpl
theorem pe_E2k {tf : TE} {kp2 : Pos} (c : Err X.prog X.w X.K X.mg X.base x C mB [f, g] (sp2 C f g)) (hr : Room 2 X.A) (hg : Gl X x) (ha : PE X e te) (hb : PE X e2 tf) (hall : (backToKw pos (keywordEach [⟨some g, e, kp⟩, ⟨some f, e2, kp2⟩] X.env)).all (·.1.isSome) = true := by rfl)
    (hks : (backToKw pos (keywordEach [⟨some g, e, kp⟩, ⟨some f, e2, kp2⟩] X.env)).filterMap (·.1) = [g, f] := by rfl) (hdb : (x == ("__debug__" : Str)) = false := by decide) (hpl : ((backTo pos (starEach [] X.env)).any (·.1) || (backToKw pos (keywordEach [⟨some g, e, kp⟩, ⟨some f, e2, kp2⟩] X.env)).any (·.1.isNone)) = false := by rfl) :
    PE X (.Call (.Name x p) [] [⟨some g, e, kp⟩, ⟨some f, e2, kp2⟩] pos) (tErr C 0 2 (sp2 C f g) (fun vs zs => vs ++ zs.reverse) tNil (tCons te (tCons tf tNil))) := by
  obtain ⟨fI, fd, h1, h2, h3, h4, h5, _⟩ := c.init
  exact pe_errk (ks := [g, f]) c.T h1 h2 h3 hr (h5 f g rfl) hg c.at_ (pk_cons ha (pk_cons hb pk_nil)) hall hks hdb hpl
end

/-! ### by data -/
section
variable {K : PySem.W.Frag} {π : Option Pn} {σ : L2.St} {H0 H1 H2 : Hp} {te tf : TE} {tl : TA} {Φ : DP} {C : Addr} {f g : Str} {d d2 : PyData}
theorem upd3 {a dx : Addr} {o u v : HO} (h : dx ≠ a) : upd (upd (upd H1 a o) dx u) a v = upd (upd H1 dx u) a v := by
  funext b
  unfold upd
  by_cases e1 : b = a
  · rw [if_pos e1, if_pos e1]
  · rw [if_neg e1, if_neg e1, if_neg e1]
theorem upd4 {a dx : Addr} {o u v x : HO} (h : dx ≠ a) : upd (upd (upd (upd H1 a o) dx u) a v) dx x = upd (upd H1 dx x) a v := by
  funext b
  unfold upd
  by_cases e2 : b = dx
  · rw [if_pos e2, e2, if_neg h, if_pos rfl]
  · rw [if_neg e2]
    by_cases e1 : b = a
    · rw [if_pos e1, if_pos e1]
    · rw [if_neg e1, if_neg e2, if_neg e1, if_neg e1, if_neg e2]
/-- an error and its dict join the core -/
theorem err_joins {a dx : Addr} {fs : List Str} {vs : List V} {ds : List PyData} (o : Okk K π H0 H1) (ha : H1 a = none) (hd : H1 dx = none) (hn : dx ≠ a) (l : fs.length = vs.length) (m : DaAll K H0 vs ds) :
    ∃ N, Stp K π H0 H1 N (upd (upd H1 dx (exd dx (fs.zip vs))) a (exo a C (some dx))) ∧ Da K N (.ref a) (errD C fs ds) := by
  have s1 : Stp K π H0 H1 (upd H0 dx (exd dx (fs.zip vs))) (upd H1 dx (exd dx (fs.zip vs))) := o.new hd (Ex.new hd) upd_same
  have ha2 : upd H1 dx (exd dx (fs.zip vs)) a = none := by rw [upd_ne (Ne.symm hn)]; exact ha
  have s2 := (s1.okk o).new (ob := exo a C (some dx)) ha2 (Ex.new ha2) upd_same
  refine ⟨_, s1.trans s2 o, .err upd_same ?_ l (dps_ex (s1.ex.trans s2.ex) m)⟩
  rw [upd_ne hn]
  exact upd_same
theorem ed_E0 : EvD K π (tErr C 0 0 sp0 (fun vs _ => vs) tNil tNil) σ H0 (· = errD C [] []) := fun H1 o Q q =>
  ⟨rfl, rfl, fun a ha => ⟨a, rfl, rfl, q _ _ _ _ rfl (o.new ha (Ex.new ha) upd_same) (.er0 upd_same)⟩⟩
theorem ed_E1 (h : EvL K π tl σ H0 (· = [d])) : EvD K π (tErr C 1 0 (sp1 C f) (fun vs _ => vs) tl tNil) σ H0 (· = errD C [f] [d]) := fun H1 o Q q => h H1 o _ fun vs ds N H2 e s kd => by
  subst e
  obtain ⟨v, rfl, kv⟩ := dps1 kd
  refine ⟨rfl, rfl, fun a ha => ⟨a, v, rfl, upd_same, fun dx hd hn => ⟨rfl, ?_⟩⟩⟩
  rw [upd_ne hn] at hd
  rw [upd3 hn]
  obtain ⟨M, s2, k2⟩ := err_joins (C := C) (fs := [f]) (s.okk o) ha hd hn rfl kd
  exact q _ _ M _ rfl (s.trans s2 o) k2
theorem ed_E1k (h : EvD K π te σ H0 (· = d)) : EvD K π (tErr C 0 1 (sp1 C f) (fun vs zs => vs ++ zs) tNil (tCons te tNil)) σ H0 (· = errD C [f] [d]) := fun H1 o Q q => h H1 o _ fun v x N H2 e s kv => by
  subst e
  refine ⟨rfl, rfl, fun a ha => ⟨a, v, rfl, upd_same, fun dx hd hn => ⟨rfl, ?_⟩⟩⟩
  rw [upd_ne hn] at hd
  rw [upd3 hn]
  obtain ⟨M, s2, k2⟩ := err_joins (C := C) (fs := [f]) (s.okk o) ha hd hn rfl (.cons kv .nil)
  exact q _ _ M _ rfl (s.trans s2 o) k2
theorem ed_E2 (h : EvL K π tl σ H0 (· = [d, d2])) : EvD K π (tErr C 2 0 (sp2 C f g) (fun vs _ => vs) tl tNil) σ H0 (· = errD C [g, f] [d2, d]) := fun H1 o Q q => h H1 o _ fun vs ds N H2 e s kd => by
  subst e
  cases kd with
  | cons k1 kd2 =>
    obtain ⟨z, rfl, k2⟩ := dps1 kd2
    refine ⟨rfl, rfl, fun a ha => ⟨a, _, z, rfl, upd_same, fun dx hd hn => ⟨rfl, ?_⟩⟩⟩
    rw [upd_ne hn] at hd
    rw [upd4 hn]
    obtain ⟨M, s2, k3⟩ := err_joins (C := C) (fs := [g, f]) (s.okk o) ha hd hn rfl (.cons k2 (.cons k1 .nil))
    exact q _ _ M _ rfl (s.trans s2 o) k3
theorem ed_E2k (h : EvL K π (tCons te (tCons tf tNil)) σ H0 (· = [d2, d])) : EvD K π (tErr C 0 2 (sp2 C f g) (fun vs zs => vs ++ zs.reverse) tNil (tCons te (tCons tf tNil))) σ H0 (· = errD C [g, f] [d2, d]) := fun H1 o Q q => by
  show tCons te (tCons tf tNil) σ H1 (fun zs H2 => (([] : List V).length = 0 ∧ zs.length = 2 ∧ ∀ a, H2 a = none → sp2 C f g ([V.ref a] ++ zs.reverse) (upd H2 a (exo a C none)) (fun v H3 => v = .non ∧ Q (.ref a) H3) E0))
  refine h H1 o _ fun vs ds N H2 e s kd => ?_
  subst e
  cases kd with
  | cons k1 kd2 =>
    obtain ⟨z, rfl, k2⟩ := dps1 kd2
    refine ⟨rfl, rfl, fun a ha => ⟨a, z, _, rfl, upd_same, fun dx hd hn => ⟨rfl, ?_⟩⟩⟩
    rw [upd_ne hn] at hd
    rw [upd4 hn]
    obtain ⟨M, s2, k3⟩ := err_joins (C := C) (fs := [g, f]) (s.okk o) ha hd hn rfl (.cons k1 (.cons k2 .nil))
    exact q _ _ M _ rfl (s.trans s2 o) k3
/-- what stands at an error -/
theorem da_err {H : Hp} {v : V} {d : PyData} (h : Da K H v d) {fs : List Str} {ds : List PyData} (e : d = errD C fs ds) :
    ∃ (a : Addr) (dd : Option Addr), v = .ref a ∧ H a = some (exo a C dd) ∧ (∀ dx, dd = some dx → ∃ vs, H dx = some (exd dx (fs.zip vs)) ∧ fs.length = vs.length ∧ DaAll K H vs ds) ∧ (dd = none → ds = []) := by
  unfold errD at e
  cases h with
  | er0 s =>
    injection e with e
    injection e with e1 e2
    injection e1 with e3 e4
    injection e2 with e5 e6
    injection e5 with e7 e8
    injection e3 with e3
    injection e8 with e8
    have ec := Int.ofNat.inj e3
    subst ec
    exact ⟨_, none, rfl, s, (fun dx z => by cases z), fun _ => e8.symm⟩
  | @err a C' dx fs' vs rows s t l m =>
    injection e with e
    injection e with e1 e2
    injection e1 with e3 e4
    injection e2 with e5 e6
    injection e5 with e7 e8
    injection e3 with e3
    injection e4 with e4
    injection e8 with e8
    have ec := Int.ofNat.inj e3
    subst ec
    have ef : fs' = fs := (List.map_inj_right (fun x y z => by injection z)).mp e4
    subst ef
    subst e8
    exact ⟨_, some dx, rfl, s, (fun dx' z => by cases z; exact ⟨vs, t, l, m⟩), (fun z => by cases z)⟩
  | emp s => cases e
  | non => cases e
  | bl _ => cases e
  | int _ => cases e
  | str _ => cases e
  | lst _ _ => cases e
  | tup _ _ => cases e
theorem zip_at : ∀ {fs : List Str} {vs : List V} {ds : List PyData} {H : Hp} {d : PyData}, fs.length = vs.length → DaAll K H vs ds → (fs.zip ds).lookup f = some d → ∃ v, (fs.zip vs).lookup f = some v ∧ Da K H v d
  | [], _, _, _, _, _, _, h => by simp at h
  | x :: fs, [], _, _, _, l, _, _ => by simp at l
  | x :: fs, v :: vs, _, _, d, l, .cons k1 k2, h => by
    rw [List.zip_cons_cons, lookup_put] at *
    by_cases e : f = x
    · subst e
      simp at h
      subst h
      exact ⟨v, by simp, k1⟩
    · have e' : (f == x) = false := by simpa using e
      simp only [List.lookup, e'] at h
      rw [if_neg e]
      exact zip_at (by simpa using l) k2 h
theorem ed_fld {fs : List Str} {ds : List PyData} (h : EvD K π te σ H0 (· = errD C fs ds)) (T : ErrC K C) (no : PySem.W.findIn K (.ref C) f = some none) (hl : (fs.zip ds).lookup f = some d) : EvD K π (tFld K f te) σ H0 (· = d) := fun H1 o Q q => h H1 o _ fun v x N H2 e s kv => by
  obtain ⟨a, dd, rfl, ha, hd, hn⟩ := da_err kv e
  have o2 := s.okk o
  cases dd with
  | none =>
    rw [hn rfl] at hl
    simp at hl
  | some dx =>
    obtain ⟨vs, hx, l, m⟩ := hd dx rfl
    obtain ⟨y, e1, e2⟩ := zip_at l m hl
    exact ⟨a, C, dx, _, y, rfl, o2.ex _ _ ha, o2.ex _ _ hx, T, no, e1, q y d N H2 rfl s e2⟩
theorem ed_isE {fs : List Str} {ds : List PyData} {c : V} {cv : Value} {b : Bool} (h : EvD K π te σ H0 (· = errD C fs ds)) (T : ErrC K C) (hc : ClsV c cv) (hk : PySem.W.kitOne K (.ref C) cv = some b) :
    EvD K π (tCB (rIsErr K) (tCons te (tCons (tC c) tNil))) σ H0 (· = .bool b) := fun H1 o Q q => h H1 o _ fun v x N H2 e s kv => by
  obtain ⟨a, dd, rfl, ha, hd, hn⟩ := da_err kv e
  have o2 := s.okk o
  exact ⟨a, C, dd, c, cv, b, rfl, o2.ex _ _ ha, fun dx z => (by
    obtain ⟨vs, hx, _, _⟩ := hd dx z
    exact ⟨_, o2.ex _ _ hx⟩), T, hc, hk, q (.bl b) _ N H2 rfl s (.bl b)⟩
theorem ed_dict : EvD K π tDNewK σ H0 (· = .dict []) := fun H1 o Q q p hp => q _ _ _ _ rfl (o.new hp (Ex.new hp) upd_same) (.emp upd_same)
end

/-! ### which classes an error is of -/
section
variable {P : Program} {w : World} {K : PySem.W.Frag} {mg : Str → Option Value} {base : Heap} {x x' : Str} {C C' : Addr} {mB mB' : List Value} {fs fs' : List Str} {sp sp' : Sp}
theorem kit_own (c : Err P w K mg base x C mB fs sp) (c' : Err P w K mg base x' C' mB' fs' sp') (h : mB.all (fun v => match v with | .type _ => true | _ => false) = true) : PySem.W.kitOne K (.ref C) (.ref C') = some (decide (C = C')) := by
  unfold PySem.W.kitOne
  by_cases e : C = C'
  · subst e
    simp
  · have e1 : (Value.ref C == Value.ref C') = false := by simpa using e
    rw [e1, if_neg Bool.false_ne_true]
    obtain ⟨cd, h1, h2⟩ := c.mro
    obtain ⟨cd', h3, _⟩ := c'.mro
    unfold PySem.W.kitCls
    dsimp only
    rw [h3, c'.ty]
    have e2 : mB.contains (.ref C') = false := by
      cases q : mB.contains (.ref C') with
      | false => rfl
      | true =>
        have := List.all_eq_true.mp h _ (List.contains_iff_mem.mp q)
        cases this
    have e3 : (((some cd' : Option ClassData).isSome && (some (Value.type "type") == some (Value.type "type"))) = true) := by simp
    rw [if_pos e3]
    unfold PySem.W.subIn PySem.W.mroIn
    dsimp only
    rw [h1, Option.bind_some, h2, if_neg (by simp), List.contains_cons, e2]
    simp [e, Ne.symm e]
theorem kit_built (c : Err P w K mg base x C mB fs sp) {n : String} (h : PySem.W.kitMeta n = true) : PySem.W.kitOne K (.ref C) (.type n) = some (mB.contains (.type n)) := by
  unfold PySem.W.kitOne
  have e1 : (Value.ref C == Value.type n) = false := by rfl
  rw [e1, if_neg Bool.false_ne_true]
  obtain ⟨cd, h1, h2⟩ := c.mro
  unfold PySem.W.kitCls
  dsimp only
  rw [if_pos h]
  unfold PySem.W.subIn PySem.W.mroIn
  dsimp only
  rw [h1, Option.bind_some, h2, if_neg (by simp), List.contains_cons]
  simp
end
end Ee

set_option maxRecDepth 100000
set_option maxHeartbeats 4000000
namespace Gd
open PySem PySem.Spec PyProof.Rows L2

/-- the script as it is tracked at the law's entry -/
def entryH (K : PySem.W.Frag) (a : Addr) (vs : List Value) (ns : List Int) : Hp := fun b =>
  if b = a ∧ K.lookup a = none then some (.frz { cls := .type "list", data := .seq vs.toArray } (.lst (ns.map V.int))) else none
theorem entry_of {K : PySem.W.Frag} {a b : Addr} {vs : List Value} {ns : List Int} {u : HO} (h : entryH K a vs ns b = some u) :
    b = a ∧ K.lookup a = none ∧ u = .frz { cls := .type "list", data := .seq vs.toArray } (.lst (ns.map V.int)) := by
  unfold entryH at h
  split at h
  · rename_i c
    exact ⟨c.1, c.2, (Option.some.inj h).symm⟩
  · cases h
theorem entry_sq {K : PySem.W.Frag} {s : Shared} {a : Addr} {vs : List Value} {ns : List Int} (KX : K.In s.heap) (ha : s.heap.get? a = some { cls := .type "list", data := .seq vs.toArray }) (hi : IntsAre vs ns) (hl : ns.length ≤ sizeLine) :
    SqL K (entryH K a vs ns) a (ns.map V.int) := by
  cases hk : K.lookup a with
  | none =>
    exact .inl (.inr ⟨{ cls := .type "list", data := .seq vs.toArray }, if_pos ⟨rfl, hk⟩⟩)
  | some o =>
    have e := KX a o hk
    rw [ha] at e
    cases e
    refine .inr ⟨_, vs.toArray, _, hk, rfl, rfl, rfl, ?_, ?_⟩
    · rw [List.size_toArray, hi.length]
      exact hl
    · simpa using vals_ints hi

theorem law_run {P : Program} {w : World} {K : PySem.W.Frag} {mg mb : Str → Option Value} {k : Nat} {fa a : Addr} {fd : FuncData} {x : Str} {sp : Sp} {s₁ : Shared} {vs : List Value} {ns : List Int}
    (KX : K.In s₁.heap) (gl : s₁.heap.Ns mainGlobals mg) (bl : s₁.heap.Ns builtinsNs mb) (bb : ∀ x : Str, x ≠ "__name__" → mb x = bootBuiltins x) (lim : s₁.heap.NoLimit) (gn : s₁.gens = #[])
    (ha : s₁.heap.get? a = some { cls := .type "list", data := .seq vs.toArray }) (hi : IntsAre vs ns) (hl : ns.length ≤ sizeLine) (hr : Room k callerA)
    (F : ∀ base : Heap, K.In base → base.Ns mainGlobals mg → Fn P w K mg base k fa fd [x] sp) (bind : ∀ (s : Shared) (u : Value), BindsTo s fd ⟨[u], []⟩ [(x, u)])
    (hsp : ∀ H : Hp, SqL K H a (ns.map V.int) → sp [.ref a] H (fun v _ => v = .bl true) E0) :
    codeAny (model P w) callerA (.call (.ref fa) ⟨[.ref a], []⟩) (fun r s' => r = .ok (.ret (.bool true)) ∧ OldK s₁.heap s'.heap ∧ s'.os = s₁.os ∧ AllBare s'.gens) s₁ := by
  have rv := vals_ints hi
  have ok : HOk P w (entryH K a vs ns) s₁.heap := fun b u e => by
    obtain ⟨rfl, _, rfl⟩ := entry_of e
    exact ⟨ha, by rw [List.length_map]; exact hl, vs, _, rv, ha⟩
  have known : ∀ {b : Addr} {o : Obj}, s₁.heap.get? b = some o → (b ≠ a ∨ K.lookup a ≠ none) → (hidT s₁.heap (entryH K a vs ns)).get? b = some o := fun {b o} e n => by
    apply hidT_get e
    cases q : entryH K a vs ns b with
    | none => rfl
    | some u =>
      obtain ⟨h1, h2, _⟩ := entry_of q
      rcases n with n | n
      · exact absurd h1 n
      · exact absurd h2 n
  have names : ∀ {b : Addr} {m : Str → Option Value}, s₁.heap.Ns b m → (hidT s₁.heap (entryH K a vs ns)).Ns b m := fun {b m} h => by
    obtain ⟨o, es, ep, e, d, r⟩ := h
    refine ⟨o, es, ep, known e (.inl fun z => ?_), d, r⟩
    subst z
    rw [ha] at e
    cases e
    cases d
  have inK : K.In (hidT s₁.heap (entryH K a vs ns)) := fun b o e => by
    refine known (KX b o e) ?_
    by_cases h : b = a
    · subst h
      exact .inr fun z => by
        rw [z] at e
        cases e
    · exact .inl h
  have md : Mod K mg (hidT s₁.heap (entryH K a vs ns)) := by
    obtain ⟨mc, h1, h2⟩ := lim
    exact ⟨inK, names gl, ⟨mb, names bl, bb⟩, mc, names h1, h2⟩
  have env : Env0 P w K mg (hidT s₁.heap (entryH K a vs ns)) callerA [] s₁ (entryH K a vs ns) := by
    refine ⟨rfl, md, fun b o e => of_hidT e, Nat.le_of_eq (hidT_size _ _), trivial, ?_, ok, .of_eq gn⟩
    intro b hb
    cases hb
  have run := (F _ inK (names gl)).run callerA [] s₁ (entryH K a vs ns) ⟨[.ref a], []⟩ [.ref a] [.ref a] _ E0 rfl hr env (bind s₁ (.ref a)) (.cons rfl .nil) (hsp _ (entry_sq KX ha hi hl))
  apply codeAny_mono run
  intro r s' h
  match r, h with
  | .ok (.ret u), h =>
    obtain ⟨v, H', os, bare, un, ok', ru, q⟩ := h
    subst q
    cases ru
    refine ⟨rfl, OldK.of_keep fun b o e => ?_, os, bare⟩
    cases q : entryH K a vs ns b with
    | none => exact un.keep b o e q (fun z => by cases z) (fun z => by cases z)
    | some u =>
      obtain ⟨rfl, _, rfl⟩ := entry_of q
      have e2 := (ok' _ _ (un.frzs _ _ _ q)).1
      rw [ha] at e
      cases e
      exact e2
  | .ok .next, h => exact False.elim h
  | .ok .brk, h => exact False.elim h
  | .ok .cont, h => exact False.elim h
  | .error e, h => exact False.elim h

theorem walk_end {l : PySem.W.OpenLaw} {n k : Nat} {q : Program} {loose : List Str} {XP : (Str → Option Value) → Heap → Prop} {YP : World → Heap → Prop} {d : DefRec} {K : Params → PySem.W.Frag} {sp : PySem.W.Frag → Sp} {x : Str}
    (hn : l.most = some n) (hn2 : n ≤ sizeLine) (hdf : d.params.defaults = []) (hr : Room k callerA) (hY : ∀ (w : World) (h : Heap), YP w h → (K w.params).In h)
    (F : ∀ (w : World) (mg : Str → Option Value) (fa : Addr) (h : Heap), (K w.params).In h → h.Ns mainGlobals mg → mg d.name = some (.ref fa) →
      ∃ fd : FuncData, (∀ (s : Shared) (u : Value), BindsTo s fd ⟨[u], []⟩ [(x, u)]) ∧ ∀ base : Heap, (K w.params).In base → base.Ns mainGlobals mg → Fn l.prog w (K w.params) mg base k fa fd [x] (sp (K w.params)))
    (hsp : ∀ (K : PySem.W.Frag) (H : Hp) (a : Addr) (ns : List Int), ns.length ≤ n → SqL K H a (ns.map V.int) → sp K [.ref a] H (fun v _ => v = .bl true) E0) :
    PySem.W.WalkO q loose XP YP l.row.toRowW d [] (fun f vs => PySem.call f vs) := by
  refine Att.attach_call hn hdf ?_
  intro w s₀ s₁ mg mb fa o pm cd doc a vs ns G Y ho hd hcd hmg hobj hints hlen hg
  obtain ⟨fd, hb, hF⟩ := F w mg fa _ (hY w _ Y) G.T.g hmg
  exact law_run (hY w _ Y) G.T.g G.T.b G.T.builtins G.T.nolimit hg hobj hints (Nat.le_trans hlen hn2) hr hF hb fun H hS => hsp (K w.params) H a ns hlen hS

/-- a def stands in the text's module under its name -/
def Dfn (K : PySem.W.Frag) (x : Str) (st : Stmt) (f : Addr) (fd : FuncData) : Prop := PySem.W.nsIn K mainGlobals x = some (some (.ref f)) ∧ Fun K x x st f fd
theorem dfn_mk {K : PySem.W.Frag} {x : Str} {st : Stmt} {f : Addr} {oc : Value} {od an : Option Addr} {osl : Array (Option Value)} {kV doc pm cdv ct : Value} (a : PySem.W.nsIn K mainGlobals x = some (some (.ref f)))
    (l : K.lookup f = some ⟨oc, od, .func (PySem.W.fnOf x x (defArgs st) (defBody st) (defScope st) .none kV doc pm an cdv ct), osl⟩) (c : PySem.W.codeIn K cdv x = true) (k : PySem.W.keepIn K (.ref f) = true) :
    Dfn K x st f (PySem.W.fnOf x x (defArgs st) (defBody st) (defScope st) .none kV doc pm an cdv ct) := ⟨a, fun_mk l c k⟩
end Gd

set_option maxRecDepth 100000
set_option maxHeartbeats 4000000
namespace Gd
open PySem PySem.Spec PyProof.Rows L2
/-- the modules' table is a dict -/
def Sy (h : Heap) : Prop := ∃ o es n, h.get? sysModules = some o ∧ o.data = .dict es n
theorem sy_of {h : Heap} (x : h.NoSeer) : Sy h := by
  obtain ⟨mm, ⟨o, es, ep, h1, h2, _⟩, _⟩ := x.mods
  exact ⟨o, es, ep, h1, h2⟩
theorem law_runS {P : Program} {w : World} {K : PySem.W.Frag} {mg mb : Str → Option Value} {k : Nat} {fa a : Addr} {fd : FuncData} {x : Str} {sp : Sp} {s₁ : Shared} {vs : List Value} {ns : List Int}
    (KX : K.In s₁.heap) (gl : s₁.heap.Ns mainGlobals mg) (bl : s₁.heap.Ns builtinsNs mb) (bb : ∀ x : Str, x ≠ "__name__" → mb x = bootBuiltins x) (lim : s₁.heap.NoLimit) (gn : s₁.gens = #[]) (sy : Sy s₁.heap)
    (ha : s₁.heap.get? a = some { cls := .type "list", data := .seq vs.toArray }) (hi : IntsAre vs ns) (hl : ns.length ≤ sizeLine) (hr : Room k callerA)
    (F : ∀ base : Heap, K.In base → base.Ns mainGlobals mg → Sy base → Fn P w K mg base k fa fd [x] sp) (bind : ∀ (s : Shared) (u : Value), BindsTo s fd ⟨[u], []⟩ [(x, u)])
    (hsp : ∀ H : Hp, SqL K H a (ns.map V.int) → sp [.ref a] H (fun v _ => v = .bl true) E0) :
    codeAny (model P w) callerA (.call (.ref fa) ⟨[.ref a], []⟩) (fun r s' => r = .ok (.ret (.bool true)) ∧ OldK s₁.heap s'.heap ∧ s'.os = s₁.os ∧ AllBare s'.gens) s₁ := by
  have rv := vals_ints hi
  have ok : HOk P w (entryH K a vs ns) s₁.heap := fun b u e => by
    obtain ⟨rfl, _, rfl⟩ := entry_of e
    exact ⟨ha, by rw [List.length_map]; exact hl, vs, _, rv, ha⟩
  have known : ∀ {b : Addr} {o : Obj}, s₁.heap.get? b = some o → (b ≠ a ∨ K.lookup a ≠ none) → (hidT s₁.heap (entryH K a vs ns)).get? b = some o := fun {b o} e n => by
    apply hidT_get e
    cases q : entryH K a vs ns b with
    | none => rfl
    | some u =>
      obtain ⟨h1, h2, _⟩ := entry_of q
      rcases n with n | n
      · exact absurd h1 n
      · exact absurd h2 n
  have names : ∀ {b : Addr} {m : Str → Option Value}, s₁.heap.Ns b m → (hidT s₁.heap (entryH K a vs ns)).Ns b m := fun {b m} h => by
    obtain ⟨o, es, ep, e, d, r⟩ := h
    refine ⟨o, es, ep, known e (.inl fun z => ?_), d, r⟩
    subst z
    rw [ha] at e
    cases e
    cases d
  have inK : K.In (hidT s₁.heap (entryH K a vs ns)) := fun b o e => by
    refine known (KX b o e) ?_
    by_cases h : b = a
    · subst h
      exact .inr fun z => by
        rw [z] at e
        cases e
    · exact .inl h
  have md : Mod K mg (hidT s₁.heap (entryH K a vs ns)) := by
    obtain ⟨mc, h1, h2⟩ := lim
    exact ⟨inK, names gl, ⟨mb, names bl, bb⟩, mc, names h1, h2⟩
  have env : Env0 P w K mg (hidT s₁.heap (entryH K a vs ns)) callerA [] s₁ (entryH K a vs ns) := by
    refine ⟨rfl, md, fun b o e => of_hidT e, Nat.le_of_eq (hidT_size _ _), trivial, ?_, ok, .of_eq gn⟩
    intro b hb
    cases hb
  have sy2 : Sy (hidT s₁.heap (entryH K a vs ns)) := by
    obtain ⟨o, es, n, e1, e2⟩ := sy
    refine ⟨o, es, n, known e1 (.inl fun z => ?_), e2⟩
    subst z
    rw [ha] at e1
    cases e1
    cases e2
  have run := (F _ inK (names gl) sy2).run callerA [] s₁ (entryH K a vs ns) ⟨[.ref a], []⟩ [.ref a] [.ref a] _ E0 rfl hr env (bind s₁ (.ref a)) (.cons rfl .nil) (hsp _ (entry_sq KX ha hi hl))
  apply codeAny_mono run
  intro r s' h
  match r, h with
  | .ok (.ret u), h =>
    obtain ⟨v, H', os, bare, un, ok', ru, q⟩ := h
    subst q
    cases ru
    refine ⟨rfl, OldK.of_keep fun b o e => ?_, os, bare⟩
    cases q : entryH K a vs ns b with
    | none => exact un.keep b o e q (fun z => by cases z) (fun z => by cases z)
    | some u =>
      obtain ⟨rfl, _, rfl⟩ := entry_of q
      have e2 := (ok' _ _ (un.frzs _ _ _ q)).1
      rw [ha] at e
      cases e
      exact e2
  | .ok .next, h => exact False.elim h
  | .ok .brk, h => exact False.elim h
  | .ok .cont, h => exact False.elim h
  | .error e, h => exact False.elim h

theorem walk_endS {l : PySem.W.OpenLaw} {n k : Nat} {q : Program} {loose : List Str} {XP : (Str → Option Value) → Heap → Prop} {YP : World → Heap → Prop} {d : DefRec} {K : Params → PySem.W.Frag} {sp : PySem.W.Frag → Sp} {x : Str} (hno : importsNone q = true)
    (hn : l.most = some n) (hn2 : n ≤ sizeLine) (hdf : d.params.defaults = []) (hr : Room k callerA) (hY : ∀ (w : World) (h : Heap), YP w h → (K w.params).In h)
    (F : ∀ (w : World) (mg : Str → Option Value) (fa : Addr) (h : Heap), (K w.params).In h → h.Ns mainGlobals mg → mg d.name = some (.ref fa) →
      ∃ fd : FuncData, (∀ (s : Shared) (u : Value), BindsTo s fd ⟨[u], []⟩ [(x, u)]) ∧ ∀ base : Heap, (K w.params).In base → base.Ns mainGlobals mg → Sy base → Fn l.prog w (K w.params) mg base k fa fd [x] (sp (K w.params)))
    (hsp : ∀ (K : PySem.W.Frag) (H : Hp) (a : Addr) (ns : List Int), ns.length ≤ n → SqL K H a (ns.map V.int) → sp K [.ref a] H (fun v _ => v = .bl true) E0) :
    PySem.W.WalkO q loose XP YP l.row.toRowW d [] (fun f vs => PySem.call f vs) := by
  refine Att.attach_call hn hdf ?_
  intro w s₀ s₁ mg mb fa o pm cd doc a vs ns G Y ho hd hcd hmg hobj hints hlen hg
  obtain ⟨fd, hb, hF⟩ := F w mg fa _ (hY w _ Y) G.T.g hmg
  exact law_runS (hY w _ Y) G.T.g G.T.b G.T.builtins G.T.nolimit hg (sy_of (G.T.seer hno)) hobj hints (Nat.le_trans hlen hn2) hr hF hb fun H hS => hsp (K w.params) H a ns hlen hS

end Gd

set_option maxRecDepth 100000
set_option maxHeartbeats 4000000
/-! repr of data in which empty dicts may stand -/
namespace Ee
open PySem PySem.Spec PyProof.Rows L2 Gd Dl
open Evl (Ex Ex.refl Ex.trans Ex.new ex_l ex_t sq_of st_of fresh_back)
mutual
def okD : PyData → Bool
  | .dict kvs => kvs.isEmpty
  | .list xs => okDs xs
  | .tuple xs => okDs xs
  | _ => true
def okDs : List PyData → Bool
  | [] => true
  | x :: xs => okD x && okDs xs
end
section
variable {X : Cx} {pins : List (Addr × Obj)} {σ : L2.St} {H : Hp} {s : Shared}
theorem not_mods (I : Inv X pins σ H s) (sy : Sy X.base) {a : Addr} {o : Obj} {vs : Array Value} {n : Nat} (h : s.heap.get? a = some o) (hd : o.data = .seq vs n) : sysModules ≠ a := fun z => by
  obtain ⟨o', es, m, e1, e2⟩ := sy
  have e3 := I.bk _ _ e1
  rw [z, h] at e3
  cases e3
  rw [hd] at e2
  cases e2
mutual
theorem da_reads (I : Inv X pins σ H s) (sy : Sy X.base) {d : PyData} {v : V} : Da X.K H v d → okD d = true → ∀ u, RelV v u → ∃ as, Reads s.heap u d as ∧ sysModules ∉ as
  | .non, _, u, r => by
    cases r
    exact ⟨_, Reads.none, by simp⟩
  | .bl q, _, u, r => by
    cases r
    exact ⟨_, Reads.bool q, by simp⟩
  | .int q, _, u, r => by
    obtain ⟨t, rfl⟩ := r
    exact ⟨_, Reads.int q t, by simp⟩
  | .str q, _, u, r => by
    obtain ⟨t, rfl⟩ := r
    exact ⟨_, Reads.str q t, by simp⟩
  | .lst hs m, h, u, r => by
    cases r
    obtain ⟨its, rv, ⟨o, n, ho, hc, _, hd⟩, _⟩ := I.list hs
    obtain ⟨as, hr, hn⟩ := das_reads I sy m (by simpa [okD] using h) its rv
    refine ⟨_, Reads.list ho hc hd hr, fun z => ?_⟩
    rcases List.mem_cons.mp z with z | z
    · exact not_mods I sy ho hd z
    · exact hn z
  | .tup hs m, h, u, r => by
    cases r
    obtain ⟨its, rv, ⟨o, ho, hc, n, hd⟩, _⟩ := I.tuple hs
    obtain ⟨as, hr, hn⟩ := das_reads I sy m (by simpa [okD] using h) its rv
    exact ⟨_, Reads.tuple ho hc hd hr, hn⟩
  | .emp s, _, u, r => by
    cases r
    obtain ⟨_, lo, vs, kv, hD⟩ := dk_of I.hok s
    cases kv
    obtain ⟨o, es, ep, ho, hx, hd, _, pr, _⟩ := hD
    have e0 : es.toList = [] := by
      cases q : es.toList with
      | nil => rfl
      | cons z zs =>
        rw [q] at pr
        cases pr
    refine ⟨_, Reads.dict ho hx.1 hd (by rw [e0]; exact ReadsAll.nil) (by rw [e0]; exact ReadsAll.nil), fun z => ?_⟩
    rw [List.append_nil, List.mem_singleton] at z
    rw [← z] at lo
    exact absurd lo (by decide)
  | .er0 _, h, _, _ => by simp [okD] at h
  | .err _ _ _ _, h, _, _ => by simp [okD] at h
theorem das_reads (I : Inv X pins σ H s) (sy : Sy X.base) {ds : List PyData} {vs : List V} : DaAll X.K H vs ds → okDs ds = true → ∀ us, Vals vs us → ∃ as, ReadsAll s.heap us ds as ∧ sysModules ∉ as
  | .nil, _, us, r => by
    cases r
    exact ⟨_, ReadsAll.nil, by simp⟩
  | .cons h t, q, us, r => by
    cases r with
    | cons r1 r2 =>
      simp only [okDs, Bool.and_eq_true] at q
      obtain ⟨as, q1, n1⟩ := da_reads I sy h q.1 _ r1
      obtain ⟨bs, q2, n2⟩ := das_reads I sy t q.2 _ r2
      exact ⟨_, ReadsAll.cons q1 q2, fun z => (List.mem_append.mp z).elim n1 n2⟩
end
end
def rReprE (K : PySem.W.Frag) : List V → Hp → VK → Prop := fun xs H Q => ∃ (x : V) (d : PyData), xs = [x] ∧ Da K H x d ∧ d.showable = true ∧ okD d = true ∧ d.depth ≤ 40 ∧ d.shown.length ≤ sizeLine ∧ Q (.str d.shown) H
theorem call_reprE {X : Cx} {k : Nat} (hfree : Free X.A) (hr : Room k X.A) (sy : Sy X.base) : CallR X (.builtin "repr") (rReprE X.K) := by
  intro pins s σ H xs us Q I r h
  obtain ⟨x, d, rfl, hd, hs, hn, hde, hz, q⟩ := h
  have hu := hr.units
  cases r with
  | cons rx rn =>
    cases rn
    rename_i u
    obtain ⟨as, rd, nm⟩ := da_reads I sy hd hn u rx
    have fin : ∀ (a : Addr), u = .ref a → wpAny (model X.prog X.w) X.A (call (.builtin "repr") [u]) (EP X pins σ Q) X.xe s := by
      rintro a rfl
      apply repr_of_reads' rd hs (fun _ => nm) hfree (by omega) (fun _ _ e => e) _ hz
      intro h' u tk hk
      exact ⟨.str _, H, I.kept hk, ⟨_, rfl⟩, q⟩
    cases hd with
    | non =>
      cases rx
      exact P.repr_of_none ⟨.str _, H, I.tok _, ⟨_, rfl⟩, q⟩
    | bl b =>
      cases rx
      exact P.repr_of_bool ⟨.str _, H, I.tok _, ⟨_, rfl⟩, q⟩
    | int i =>
      obtain ⟨tk, rfl⟩ := rx
      have hi : i.natAbs.log2 < 1920 := of_decide_eq_true (by simpa [PyData.showable] using hs)
      exact P.repr_of_int hi ⟨.str _, H, I.tok _, ⟨_, rfl⟩, q⟩
    | str y =>
      obtain ⟨tk, rfl⟩ := rx
      exact P.repr_of_str ⟨.str _, H, I.tok _, ⟨_, rfl⟩, q⟩ hz
    | lst => exact fin _ rx
    | tup => exact fin _ rx
    | emp => exact fin _ rx
    | er0 => simp [okD] at hn
    | err => simp [okD] at hn
section
variable {K : PySem.W.Frag} {π : Option Pn}
theorem cb_reprE {d : PyData} (h1 : d.showable = true) (h2 : okD d = true) (h3 : d.depth ≤ 40) (h4 : d.shown.length ≤ sizeLine) : CbD K π (rReprE K) [d] (· = .str d.shown) := fun vs H0 H1 h o Q q => by
  obtain ⟨v, rfl, hv⟩ := dps1 h
  exact ⟨v, d, rfl, dp_ex o.ex hv, h1, h2, h3, h4, q _ _ H0 H1 rfl o.stp (.str _)⟩
end
end Ee

set_option maxRecDepth 100000
set_option maxHeartbeats 4000000
namespace K86
open PySem PySem.Spec PyProof.Rows L2 Gd Dt Dl Ee
def top (i : Nat) : Stmt := PySem.Challenge.pw_losinglanes_k86_errors_required.main.body.getD i (.Pass ⟨0, 0, 0, 0⟩)
/-- the first def of a class -/
def inner : Stmt → Stmt
  | .ClassDef (body := b) .. => b.headD (.Pass ⟨0, 0, 0, 0⟩)
  | _ => .Pass ⟨0, 0, 0, 0⟩
abbrev mVal : List Value := [.type "ValueError", .type "Exception", .type "BaseException", .type "object"]
abbrev mRun : List Value := [.type "RuntimeError", .type "Exception", .type "BaseException", .type "object"]
abbrev mOvf : List Value := [.type "OverflowError", .type "ArithmeticError", .type "Exception", .type "BaseException", .type "object"]
abbrev mLok : List Value := [.type "LookupError", .type "Exception", .type "BaseException", .type "object"]
/-- what the text's heap says of a class and of its __init__ -/
structure Raw (K : PySem.W.Frag) (x q0 : Str) (st : Stmt) (C fI : Addr) (fd : FuncData) (Bn newId : String) (mB : List Value) (fs : List Str) : Prop where
  at_ : PySem.W.nsIn K mainGlobals x = some (some (.ref C))
  ob : ∃ nm q N bs sn sub ab col dd k0 k1 k2 k3 k5, K.lookup C = some (excClassObj nm q C N bs mB true sn sub ab col dd k0 k1 k2 k3 k5 newId)
  sa : PySem.W.findIn K (.ref C) "__setattr__" = some (some (.builtin "object.__setattr__"))
  ga : PySem.W.findIn K (.ref C) "__getattribute__" = some (some (.builtin "BaseException.__getattribute__"))
  gg : PySem.W.findIn K (.ref C) "__getattr__" = some none
  exC : PySem.W.subIn K (.ref C) (.type "BaseException") = some true
  kC : PySem.W.keepIn K (.ref C) = true
  hdC : PySem.W.hasDictIn K C = true
  ca : PySem.W.findIn K (.ref C) "__class__" = some (some (.builtin "object.__class__"))
  gn : PySem.W.specialIn K (.builtin "object.__class__") "__get__" = some (some (.builtin "getset_descriptor.__get__"))
  tk : PySem.W.takesIn K (.builtin "object.__class__") = some true
  mo : PySem.W.mroIn K C (.type "object") = some true
  ty : PySem.W.typeIn K (.ref C) = some (.type "type")
  iC : PySem.W.findIn K (.ref C) "__init__" = some (some (.ref fI))
  tI : PySem.W.typeIn K (.ref fI) = some (.type "function")
  F : L2.Fun K "__init__" q0 st fI fd
  no : ∀ f ∈ fs, PySem.W.findIn K (.ref C) f = some none
section
variable {P : Program} {w : World} {K : PySem.W.Frag} {mg : Str → Option Value} {base : Heap} {x q0 : Str} {st : Stmt} {C fI : Addr} {fd : FuncData} {Bn newId initId : String} {mB : List Value} {fs : List Str} {sp : Sp}
theorem Raw.errC (r : Raw K x q0 st C fI fd Bn newId mB fs) (FB : ExcBaseFacts Bn newId initId mB) (SF : StoreFacts Bn mB "object.__setattr__" "object") : ErrC K C := by
  obtain ⟨nm, q, N, bs, sn, sub, ab, col, dd, k0, k1, k2, k3, k5, ob⟩ := r.ob
  exact ⟨⟨nm, q, N, bs, sn, sub, ab, col, dd, k0, k1, k2, k3, k5, Bn, newId, initId, mB, ob, FB, SF⟩, r.sa, r.ga, r.gg, r.exC, r.kC, r.hdC, r.ca, r.gn, r.tk, r.mo⟩
theorem Raw.mro (r : Raw K x q0 st C fI fd Bn newId mB fs) : ∃ cd, PySem.W.clsIn K C = some cd ∧ cd.mro = .ref C :: mB := by
  obtain ⟨nm, q, N, bs, sn, sub, ab, col, dd, k0, k1, k2, k3, k5, ob⟩ := r.ob
  refine ⟨_, by unfold PySem.W.clsIn; rw [ob] <;> rfl, rfl⟩
end
section
variable {P : Program} {w : World} {K : PySem.W.Frag} {mg : Str → Option Value} {base : Heap} {C fI : Addr} {fd : FuncData}
theorem sc1 : FnScope ["self", "part"] ["self", "part"] (defScope (inner (top 1))) := ⟨rfl, rfl, rfl, by decide +kernel, rfl, by decide +kernel, by decide +kernel⟩
theorem e1 (r : Raw K "InvalidProgram" "InvalidProgram.__init__" (inner (top 1)) C fI fd "ValueError" "ValueError.__new__" mVal ["part"]) (m : mg "InvalidProgram" = some (.ref C)) : Err P w K mg base "InvalidProgram" C mVal ["part"] (sp1 C "part") := by
  have T := r.errC PySem.F.excBase_ValueError PySem.F.store_ValueError
  have nd := sc1.nd
  refine ⟨m, T, r.mro, r.ty, r.no, fI, fd, r.iC, r.tI, r.F.ok sc1 (fun vs H Q E h => ?_) (fun cdv A outer s H vs Q E hr h => ?_), r.F.binds (ps := ["self", "part"]) (fun _ _ _ _ _ _ us hl => match us, hl with | [_, _], _ => rfl), (fun f g z => by cases z), fun f z => ?_⟩
  · obtain ⟨a, y, rfl, _⟩ := h
    rfl
  · exact ⟨_, pss_one (ps_put (pv 0) (pv 1)), pure1 T (r.no _ (by simp)) vs H Q E h⟩
  · cases z
    obtain ⟨oc, od, kV, doc, pm, an, cdv, ct, osl, rfl, lk, hcd⟩ := r.F.ex
    refine ⟨fun s us ws _ l1 l2 => ?_, fun r1 r2 => r1.append r2⟩
    match us, ws, l1, l2 with
    | [_], [_], _, _ => exact BindsTo.of_eq rfl
theorem sc2 : FnScope ["self"] ["self"] (defScope (inner (top 2))) := ⟨rfl, rfl, rfl, by decide +kernel, rfl, by decide +kernel, by decide +kernel⟩
theorem e2 (r : Raw K "InvalidLot" "InvalidLot.__init__" (inner (top 2)) C fI fd "ValueError" "ValueError.__new__" mVal []) (m : mg "InvalidLot" = some (.ref C)) : Err P w K mg base "InvalidLot" C mVal [] sp0 := by
  have T := r.errC PySem.F.excBase_ValueError PySem.F.store_ValueError
  have nd := sc2.nd
  refine ⟨m, T, r.mro, r.ty, r.no, fI, fd, r.iC, r.tI, r.F.ok sc2 (fun vs H Q E h => ?_) (fun cdv A outer s H vs Q E hr h => ?_), r.F.binds (ps := ["self"]) (fun _ _ _ _ _ _ us hl => match us, hl with | [_], _ => rfl), (fun f g z => by cases z), (fun f z => by cases z)⟩
  · obtain ⟨a, rfl, _⟩ := h
    rfl
  · obtain ⟨a, rfl, q⟩ := h
    exact ⟨_, pss_one ps_pass, q⟩
theorem sc3 : FnScope ["self", "index"] ["self", "index"] (defScope (inner (top 3))) := ⟨rfl, rfl, rfl, by decide +kernel, rfl, by decide +kernel, by decide +kernel⟩
theorem e3 (r : Raw K "InvalidSituation" "InvalidSituation.__init__" (inner (top 3)) C fI fd "ValueError" "ValueError.__new__" mVal ["index"]) (m : mg "InvalidSituation" = some (.ref C)) : Err P w K mg base "InvalidSituation" C mVal ["index"] (sp1 C "index") := by
  have T := r.errC PySem.F.excBase_ValueError PySem.F.store_ValueError
  have nd := sc3.nd
  refine ⟨m, T, r.mro, r.ty, r.no, fI, fd, r.iC, r.tI, r.F.ok sc3 (fun vs H Q E h => ?_) (fun cdv A outer s H vs Q E hr h => ?_), r.F.binds (ps := ["self", "index"]) (fun _ _ _ _ _ _ us hl => match us, hl with | [_, _], _ => rfl), (fun f g z => by cases z), fun f z => ?_⟩
  · obtain ⟨a, y, rfl, _⟩ := h
    rfl
  · exact ⟨_, pss_one (ps_put (pv 0) (pv 1)), pure1 T (r.no _ (by simp)) vs H Q E h⟩
  · cases z
    obtain ⟨oc, od, kV, doc, pm, an, cdv, ct, osl, rfl, lk, hcd⟩ := r.F.ex
    refine ⟨fun s us ws _ l1 l2 => ?_, fun r1 r2 => r1.append r2⟩
    match us, ws, l1, l2 with
    | [_], [_], _, _ => exact BindsTo.of_eq rfl
theorem sc4 : FnScope ["self", "index"] ["self", "index"] (defScope (inner (top 4))) := ⟨rfl, rfl, rfl, by decide +kernel, rfl, by decide +kernel, by decide +kernel⟩
theorem e4 (r : Raw K "InvalidOptions" "InvalidOptions.__init__" (inner (top 4)) C fI fd "ValueError" "ValueError.__new__" mVal ["index"]) (m : mg "InvalidOptions" = some (.ref C)) : Err P w K mg base "InvalidOptions" C mVal ["index"] (sp1 C "index") := by
  have T := r.errC PySem.F.excBase_ValueError PySem.F.store_ValueError
  have nd := sc4.nd
  refine ⟨m, T, r.mro, r.ty, r.no, fI, fd, r.iC, r.tI, r.F.ok sc4 (fun vs H Q E h => ?_) (fun cdv A outer s H vs Q E hr h => ?_), r.F.binds (ps := ["self", "index"]) (fun _ _ _ _ _ _ us hl => match us, hl with | [_, _], _ => rfl), (fun f g z => by cases z), fun f z => ?_⟩
  · obtain ⟨a, y, rfl, _⟩ := h
    rfl
  · exact ⟨_, pss_one (ps_put (pv 0) (pv 1)), pure1 T (r.no _ (by simp)) vs H Q E h⟩
  · cases z
    obtain ⟨oc, od, kV, doc, pm, an, cdv, ct, osl, rfl, lk, hcd⟩ := r.F.ex
    refine ⟨fun s us ws _ l1 l2 => ?_, fun r1 r2 => r1.append r2⟩
    match us, ws, l1, l2 with
    | [_], [_], _, _ => exact BindsTo.of_eq rfl
theorem sc5 : FnScope ["self", "part"] ["self", "part"] (defScope (inner (top 5))) := ⟨rfl, rfl, rfl, by decide +kernel, rfl, by decide +kernel, by decide +kernel⟩
theorem e5 (r : Raw K "InvalidClaim" "InvalidClaim.__init__" (inner (top 5)) C fI fd "ValueError" "ValueError.__new__" mVal ["part"]) (m : mg "InvalidClaim" = some (.ref C)) : Err P w K mg base "InvalidClaim" C mVal ["part"] (sp1 C "part") := by
  have T := r.errC PySem.F.excBase_ValueError PySem.F.store_ValueError
  have nd := sc5.nd
  refine ⟨m, T, r.mro, r.ty, r.no, fI, fd, r.iC, r.tI, r.F.ok sc5 (fun vs H Q E h => ?_) (fun cdv A outer s H vs Q E hr h => ?_), r.F.binds (ps := ["self", "part"]) (fun _ _ _ _ _ _ us hl => match us, hl with | [_, _], _ => rfl), (fun f g z => by cases z), fun f z => ?_⟩
  · obtain ⟨a, y, rfl, _⟩ := h
    rfl
  · exact ⟨_, pss_one (ps_put (pv 0) (pv 1)), pure1 T (r.no _ (by simp)) vs H Q E h⟩
  · cases z
    obtain ⟨oc, od, kV, doc, pm, an, cdv, ct, osl, rfl, lk, hcd⟩ := r.F.ex
    refine ⟨fun s us ws _ l1 l2 => ?_, fun r1 r2 => r1.append r2⟩
    match us, ws, l1, l2 with
    | [_], [_], _, _ => exact BindsTo.of_eq rfl
theorem sc6 : FnScope ["self", "index"] ["self", "index"] (defScope (inner (top 6))) := ⟨rfl, rfl, rfl, by decide +kernel, rfl, by decide +kernel, by decide +kernel⟩
theorem e6 (r : Raw K "InvalidGoals" "InvalidGoals.__init__" (inner (top 6)) C fI fd "ValueError" "ValueError.__new__" mVal ["index"]) (m : mg "InvalidGoals" = some (.ref C)) : Err P w K mg base "InvalidGoals" C mVal ["index"] (sp1 C "index") := by
  have T := r.errC PySem.F.excBase_ValueError PySem.F.store_ValueError
  have nd := sc6.nd
  refine ⟨m, T, r.mro, r.ty, r.no, fI, fd, r.iC, r.tI, r.F.ok sc6 (fun vs H Q E h => ?_) (fun cdv A outer s H vs Q E hr h => ?_), r.F.binds (ps := ["self", "index"]) (fun _ _ _ _ _ _ us hl => match us, hl with | [_, _], _ => rfl), (fun f g z => by cases z), fun f z => ?_⟩
  · obtain ⟨a, y, rfl, _⟩ := h
    rfl
  · exact ⟨_, pss_one (ps_put (pv 0) (pv 1)), pure1 T (r.no _ (by simp)) vs H Q E h⟩
  · cases z
    obtain ⟨oc, od, kV, doc, pm, an, cdv, ct, osl, rfl, lk, hcd⟩ := r.F.ex
    refine ⟨fun s us ws _ l1 l2 => ?_, fun r1 r2 => r1.append r2⟩
    match us, ws, l1, l2 with
    | [_], [_], _, _ => exact BindsTo.of_eq rfl
theorem sc7 : FnScope ["self", "line"] ["self", "line"] (defScope (inner (top 7))) := ⟨rfl, rfl, rfl, by decide +kernel, rfl, by decide +kernel, by decide +kernel⟩
theorem e7 (r : Raw K "ParseError" "ParseError.__init__" (inner (top 7)) C fI fd "ValueError" "ValueError.__new__" mVal ["line"]) (m : mg "ParseError" = some (.ref C)) : Err P w K mg base "ParseError" C mVal ["line"] (sp1 C "line") := by
  have T := r.errC PySem.F.excBase_ValueError PySem.F.store_ValueError
  have nd := sc7.nd
  refine ⟨m, T, r.mro, r.ty, r.no, fI, fd, r.iC, r.tI, r.F.ok sc7 (fun vs H Q E h => ?_) (fun cdv A outer s H vs Q E hr h => ?_), r.F.binds (ps := ["self", "line"]) (fun _ _ _ _ _ _ us hl => match us, hl with | [_, _], _ => rfl), (fun f g z => by cases z), fun f z => ?_⟩
  · obtain ⟨a, y, rfl, _⟩ := h
    rfl
  · exact ⟨_, pss_one (ps_put (pv 0) (pv 1)), pure1 T (r.no _ (by simp)) vs H Q E h⟩
  · cases z
    obtain ⟨oc, od, kV, doc, pm, an, cdv, ct, osl, rfl, lk, hcd⟩ := r.F.ex
    refine ⟨fun s us ws _ l1 l2 => ?_, fun r1 r2 => r1.append r2⟩
    match us, ws, l1, l2 with
    | [_], [_], _, _ => exact BindsTo.of_eq rfl
theorem sc8 : FnScope ["self", "goal"] ["self", "goal"] (defScope (inner (top 8))) := ⟨rfl, rfl, rfl, by decide +kernel, rfl, by decide +kernel, by decide +kernel⟩
theorem e8 (r : Raw K "UnknownGoal" "UnknownGoal.__init__" (inner (top 8)) C fI fd "LookupError" "LookupError.__new__" mLok ["goal"]) (m : mg "UnknownGoal" = some (.ref C)) : Err P w K mg base "UnknownGoal" C mLok ["goal"] (sp1 C "goal") := by
  have T := r.errC PySem.F.excBase_LookupError PySem.F.store_LookupError
  have nd := sc8.nd
  refine ⟨m, T, r.mro, r.ty, r.no, fI, fd, r.iC, r.tI, r.F.ok sc8 (fun vs H Q E h => ?_) (fun cdv A outer s H vs Q E hr h => ?_), r.F.binds (ps := ["self", "goal"]) (fun _ _ _ _ _ _ us hl => match us, hl with | [_, _], _ => rfl), (fun f g z => by cases z), fun f z => ?_⟩
  · obtain ⟨a, y, rfl, _⟩ := h
    rfl
  · exact ⟨_, pss_one (ps_put (pv 0) (pv 1)), pure1 T (r.no _ (by simp)) vs H Q E h⟩
  · cases z
    obtain ⟨oc, od, kV, doc, pm, an, cdv, ct, osl, rfl, lk, hcd⟩ := r.F.ex
    refine ⟨fun s us ws _ l1 l2 => ?_, fun r1 r2 => r1.append r2⟩
    match us, ws, l1, l2 with
    | [_], [_], _, _ => exact BindsTo.of_eq rfl
theorem sc9 : FnScope ["self"] ["self"] (defScope (inner (top 9))) := ⟨rfl, rfl, rfl, by decide +kernel, rfl, by decide +kernel, by decide +kernel⟩
theorem e9 (r : Raw K "CannotDo" "CannotDo.__init__" (inner (top 9)) C fI fd "RuntimeError" "RuntimeError.__new__" mRun []) (m : mg "CannotDo" = some (.ref C)) : Err P w K mg base "CannotDo" C mRun [] sp0 := by
  have T := r.errC PySem.F.excBase_RuntimeError PySem.F.store_RuntimeError
  have nd := sc9.nd
  refine ⟨m, T, r.mro, r.ty, r.no, fI, fd, r.iC, r.tI, r.F.ok sc9 (fun vs H Q E h => ?_) (fun cdv A outer s H vs Q E hr h => ?_), r.F.binds (ps := ["self"]) (fun _ _ _ _ _ _ us hl => match us, hl with | [_], _ => rfl), (fun f g z => by cases z), (fun f z => by cases z)⟩
  · obtain ⟨a, rfl, _⟩ := h
    rfl
  · obtain ⟨a, rfl, q⟩ := h
    exact ⟨_, pss_one ps_pass, q⟩
theorem sc10 : FnScope ["self"] ["self"] (defScope (inner (top 10))) := ⟨rfl, rfl, rfl, by decide +kernel, rfl, by decide +kernel, by decide +kernel⟩
theorem e10 (r : Raw K "CannotLose" "CannotLose.__init__" (inner (top 10)) C fI fd "RuntimeError" "RuntimeError.__new__" mRun []) (m : mg "CannotLose" = some (.ref C)) : Err P w K mg base "CannotLose" C mRun [] sp0 := by
  have T := r.errC PySem.F.excBase_RuntimeError PySem.F.store_RuntimeError
  have nd := sc10.nd
  refine ⟨m, T, r.mro, r.ty, r.no, fI, fd, r.iC, r.tI, r.F.ok sc10 (fun vs H Q E h => ?_) (fun cdv A outer s H vs Q E hr h => ?_), r.F.binds (ps := ["self"]) (fun _ _ _ _ _ _ us hl => match us, hl with | [_], _ => rfl), (fun f g z => by cases z), (fun f z => by cases z)⟩
  · obtain ⟨a, rfl, _⟩ := h
    rfl
  · obtain ⟨a, rfl, q⟩ := h
    exact ⟨_, pss_one ps_pass, q⟩
theorem sc11 : FnScope ["self"] ["self"] (defScope (inner (top 11))) := ⟨rfl, rfl, rfl, by decide +kernel, rfl, by decide +kernel, by decide +kernel⟩
theorem e11 (r : Raw K "CannotWear" "CannotWear.__init__" (inner (top 11)) C fI fd "RuntimeError" "RuntimeError.__new__" mRun []) (m : mg "CannotWear" = some (.ref C)) : Err P w K mg base "CannotWear" C mRun [] sp0 := by
  have T := r.errC PySem.F.excBase_RuntimeError PySem.F.store_RuntimeError
  have nd := sc11.nd
  refine ⟨m, T, r.mro, r.ty, r.no, fI, fd, r.iC, r.tI, r.F.ok sc11 (fun vs H Q E h => ?_) (fun cdv A outer s H vs Q E hr h => ?_), r.F.binds (ps := ["self"]) (fun _ _ _ _ _ _ us hl => match us, hl with | [_], _ => rfl), (fun f g z => by cases z), (fun f z => by cases z)⟩
  · obtain ⟨a, rfl, _⟩ := h
    rfl
  · obtain ⟨a, rfl, q⟩ := h
    exact ⟨_, pss_one ps_pass, q⟩
theorem sc12 : FnScope ["self", "goal"] ["self", "goal"] (defScope (inner (top 12))) := ⟨rfl, rfl, rfl, by decide +kernel, rfl, by decide +kernel, by decide +kernel⟩
theorem e12 (r : Raw K "OutOfReach" "OutOfReach.__init__" (inner (top 12)) C fI fd "RuntimeError" "RuntimeError.__new__" mRun ["goal"]) (m : mg "OutOfReach" = some (.ref C)) : Err P w K mg base "OutOfReach" C mRun ["goal"] (sp1 C "goal") := by
  have T := r.errC PySem.F.excBase_RuntimeError PySem.F.store_RuntimeError
  have nd := sc12.nd
  refine ⟨m, T, r.mro, r.ty, r.no, fI, fd, r.iC, r.tI, r.F.ok sc12 (fun vs H Q E h => ?_) (fun cdv A outer s H vs Q E hr h => ?_), r.F.binds (ps := ["self", "goal"]) (fun _ _ _ _ _ _ us hl => match us, hl with | [_, _], _ => rfl), (fun f g z => by cases z), fun f z => ?_⟩
  · obtain ⟨a, y, rfl, _⟩ := h
    rfl
  · exact ⟨_, pss_one (ps_put (pv 0) (pv 1)), pure1 T (r.no _ (by simp)) vs H Q E h⟩
  · cases z
    obtain ⟨oc, od, kV, doc, pm, an, cdv, ct, osl, rfl, lk, hcd⟩ := r.F.ex
    refine ⟨fun s us ws _ l1 l2 => ?_, fun r1 r2 => r1.append r2⟩
    match us, ws, l1, l2 with
    | [_], [_], _, _ => exact BindsTo.of_eq rfl
theorem sc13 : FnScope ["self", "index"] ["self", "index"] (defScope (inner (top 13))) := ⟨rfl, rfl, rfl, by decide +kernel, rfl, by decide +kernel, by decide +kernel⟩
theorem e13 (r : Raw K "Stuck" "Stuck.__init__" (inner (top 13)) C fI fd "RuntimeError" "RuntimeError.__new__" mRun ["index"]) (m : mg "Stuck" = some (.ref C)) : Err P w K mg base "Stuck" C mRun ["index"] (sp1 C "index") := by
  have T := r.errC PySem.F.excBase_RuntimeError PySem.F.store_RuntimeError
  have nd := sc13.nd
  refine ⟨m, T, r.mro, r.ty, r.no, fI, fd, r.iC, r.tI, r.F.ok sc13 (fun vs H Q E h => ?_) (fun cdv A outer s H vs Q E hr h => ?_), r.F.binds (ps := ["self", "index"]) (fun _ _ _ _ _ _ us hl => match us, hl with | [_, _], _ => rfl), (fun f g z => by cases z), fun f z => ?_⟩
  · obtain ⟨a, y, rfl, _⟩ := h
    rfl
  · exact ⟨_, pss_one (ps_put (pv 0) (pv 1)), pure1 T (r.no _ (by simp)) vs H Q E h⟩
  · cases z
    obtain ⟨oc, od, kV, doc, pm, an, cdv, ct, osl, rfl, lk, hcd⟩ := r.F.ex
    refine ⟨fun s us ws _ l1 l2 => ?_, fun r1 r2 => r1.append r2⟩
    match us, ws, l1, l2 with
    | [_], [_], _, _ => exact BindsTo.of_eq rfl
theorem sc14 : FnScope ["self", "index", "reason"] ["self", "index", "reason"] (defScope (inner (top 14))) := ⟨rfl, rfl, rfl, by decide +kernel, rfl, by decide +kernel, by decide +kernel⟩
theorem e14 (r : Raw K "Refused" "Refused.__init__" (inner (top 14)) C fI fd "RuntimeError" "RuntimeError.__new__" mRun ["index", "reason"]) (m : mg "Refused" = some (.ref C)) : Err P w K mg base "Refused" C mRun ["index", "reason"] (sp2 C "index" "reason") := by
  have T := r.errC PySem.F.excBase_RuntimeError PySem.F.store_RuntimeError
  have nd := sc14.nd
  refine ⟨m, T, r.mro, r.ty, r.no, fI, fd, r.iC, r.tI, r.F.ok sc14 (fun vs H Q E h => ?_) (fun cdv A outer s H vs Q E hr h => ?_), r.F.binds (ps := ["self", "index", "reason"]) (fun _ _ _ _ _ _ us hl => match us, hl with | [_, _, _], _ => rfl), fun f g z => ?_, (fun f z => by cases z)⟩
  · obtain ⟨a, y, z, rfl, _⟩ := h
    rfl
  · exact ⟨_, pss_cons (ps_put (pv 0) (pv 1)) (pss_one (ps_put (pv 0) (pv 2))), pure2 T (r.no _ (by simp)) (r.no _ (by simp)) vs H Q E h⟩
  · cases z
    obtain ⟨oc, od, kV, doc, pm, an, cdv, ct, osl, rfl, lk, hcd⟩ := r.F.ex
    refine ⟨fun s us ws _ l1 l2 => ?_, fun r1 r2 => r1.append r2.reverse⟩
    match us, ws, l1, l2 with
    | [_], [_, _], _, _ => exact BindsTo.of_eq rfl
theorem sc15 : FnScope ["self"] ["self"] (defScope (inner (top 15))) := ⟨rfl, rfl, rfl, by decide +kernel, rfl, by decide +kernel, by decide +kernel⟩
theorem e15 (r : Raw K "NothingDone" "NothingDone.__init__" (inner (top 15)) C fI fd "RuntimeError" "RuntimeError.__new__" mRun []) (m : mg "NothingDone" = some (.ref C)) : Err P w K mg base "NothingDone" C mRun [] sp0 := by
  have T := r.errC PySem.F.excBase_RuntimeError PySem.F.store_RuntimeError
  have nd := sc15.nd
  refine ⟨m, T, r.mro, r.ty, r.no, fI, fd, r.iC, r.tI, r.F.ok sc15 (fun vs H Q E h => ?_) (fun cdv A outer s H vs Q E hr h => ?_), r.F.binds (ps := ["self"]) (fun _ _ _ _ _ _ us hl => match us, hl with | [_], _ => rfl), (fun f g z => by cases z), (fun f z => by cases z)⟩
  · obtain ⟨a, rfl, _⟩ := h
    rfl
  · obtain ⟨a, rfl, q⟩ := h
    exact ⟨_, pss_one ps_pass, q⟩
theorem sc16 : FnScope ["self", "limit"] ["self", "limit"] (defScope (inner (top 16))) := ⟨rfl, rfl, rfl, by decide +kernel, rfl, by decide +kernel, by decide +kernel⟩
theorem e16 (r : Raw K "LimitExceeded" "LimitExceeded.__init__" (inner (top 16)) C fI fd "OverflowError" "OverflowError.__new__" mOvf ["limit"]) (m : mg "LimitExceeded" = some (.ref C)) : Err P w K mg base "LimitExceeded" C mOvf ["limit"] (sp1 C "limit") := by
  have T := r.errC PySem.F.excBase_OverflowError PySem.F.store_OverflowError
  have nd := sc16.nd
  refine ⟨m, T, r.mro, r.ty, r.no, fI, fd, r.iC, r.tI, r.F.ok sc16 (fun vs H Q E h => ?_) (fun cdv A outer s H vs Q E hr h => ?_), r.F.binds (ps := ["self", "limit"]) (fun _ _ _ _ _ _ us hl => match us, hl with | [_, _], _ => rfl), (fun f g z => by cases z), fun f z => ?_⟩
  · obtain ⟨a, y, rfl, _⟩ := h
    rfl
  · exact ⟨_, pss_one (ps_put (pv 0) (pv 1)), pure1 T (r.no _ (by simp)) vs H Q E h⟩
  · cases z
    obtain ⟨oc, od, kV, doc, pm, an, cdv, ct, osl, rfl, lk, hcd⟩ := r.F.ex
    refine ⟨fun s us ws _ l1 l2 => ?_, fun r1 r2 => r1.append r2⟩
    match us, ws, l1, l2 with
    | [_], [_], _, _ => exact BindsTo.of_eq rfl
end
end K86

set_option maxRecDepth 100000
set_option maxHeartbeats 4000000
namespace K86
open PySem PySem.Spec PyProof.Rows L2 Gd Dt Dl Ee
open Evl (Ex Ex.refl Ex.trans Ex.new ex_l ex_t sq_of st_of fresh_back)
abbrev sPen : Stmt := top 18
abbrev sFresh : Stmt := top 19
abbrev sDraw : Stmt := top 20
section
variable {P : Program} {w : World} {K : PySem.W.Frag} {mg : Str → Option Value} {base : Heap}
/-! ### the pen -/
theorem dps2 {H0 : Hp} {vs : List V} {a b : PyData} (h : DaAll K H0 vs [a, b]) : ∃ x y, vs = [x, y] ∧ Da K H0 x a ∧ Da K H0 y b := by
  cases h with
  | cons h1 h2 =>
    obtain ⟨y, rfl, hy⟩ := dps1 h2
    exact ⟨_, y, rfl, h1, hy⟩
theorem tupI_inj {a b : List Int} (h : tupI a = tupI b) : a = b := by
  unfold tupI at h
  injection h with h
  exact (List.map_inj_right (fun x y e => by injection e)).mp h
theorem map_int : ∀ {ns : List Int} {vs : List V} {H0 : Hp}, DaAll K H0 vs (ns.map .int) → vs = ns.map V.int
  | [], _, _, h => by cases h; rfl
  | _ :: _, _, _, h => by
    cases h with
    | cons h1 h2 => rw [dp_int h1, map_int h2]; rfl
theorem dps_int {H0 : Hp} : ∀ ns : List Int, DaAll K H0 (ns.map V.int) (ns.map .int)
  | [] => .nil
  | _ :: ns => .cons (.int _) (dps_int ns)

def spPen (K : PySem.W.Frag) : Sp := fun vs H Q _ => ∃ (a : Addr) (ns : List Int), vs = [.ref a] ∧ SqL K H a (ns.map V.int) ∧ ns.length ≤ 63 ∧ ∀ (q : Pn) (H' : Hp), Okk K (some q) H H' → Q (.ref q.p) H'
theorem take_ints (ns : List Int) (hn : ns.length ≤ 63) : cutV (ns.map V.int) none (some 63) = ns.map V.int := by
  unfold cutV
  have h1 : HT.sIx (ns.map V.int).length 0 none = 0 := rfl
  have h2 : HT.sIx (ns.map V.int).length (ns.map V.int).length (some 63) = min 63 (ns.map V.int).length := HT.sIx_nat _ _ 63
  rw [h1, h2, List.length_map, Nat.min_eq_right hn, List.drop_zero, Nat.sub_zero]
  exact List.take_of_length_le (by rw [List.length_map]; exact Nat.le_refl _)
theorem scPen : FnScope ["script"] ["script"] (defScope sPen) := ⟨rfl, rfl, rfl, by decide +kernel, rfl, by decide +kernel, by decide +kernel⟩
theorem c_pen {f : Addr} {fd : FuncData} (F : Fun K "_law_pen" "_law_pen" sPen f fd) (m : mg "_law_pen" = some (.ref f)) (B : Blt mg) : Cal P w K mg base "_law_pen" 1 ["script"] (spPen K) := by
  refine ⟨f, fd, F.ok scPen (fun vs H Q E h => ?_) (fun cdv A outer s H vs Q E hr h => ?_), m, F.kp, F.binds (ps := ["script"]) fun _ _ _ _ _ _ us hl => match us, hl with | [_], _ => rfl⟩
  · obtain ⟨a, ns, rfl, _⟩ := h
    rfl
  obtain ⟨a, ns, rfl, hs, hn, q⟩ := h
  have nd := scPen.nd
  refine ⟨_, (pss_one (ps_ret (pe_lst (pa_cons (pe_callTy call_list_of (by rfl) B.list (by decide +kernel) (pa_cons (pe_slice sl_list (pv 0) po_none (po_some pe_int)) pa_nil)) (pa_cons pe_int (pa_cons pe_int pa_nil)))))), ?_⟩
  refine ⟨_, rfl, 63, rfl, a, _, rfl, hs, fun c hc => ?_⟩
  rw [take_ints ns hn]
  refine ⟨c, _, rfl, .inl (sq_of upd_same), fun g hg => ⟨by show 3 ≤ sizeLine; decide, fun p hp => ?_⟩⟩
  have e1 : Ex H (upd H c (.lst (ns.map V.int))) := Ex.new hc
  have e2 := e1.trans (Ex.new (o := .lst (ns.map V.int)) hg)
  have ngp : g ≠ p := fun z => by
    rw [← z, upd_same] at hp
    cases hp
  refine q ⟨p, g, ns⟩ _ ⟨e2.trans (Ex.new hp), fun q' e => ?_⟩
  cases e
  exact ⟨fresh_back e2 hp, ⟨⟨0, 0, upd_same⟩, sq_of (by rw [upd_ne ngp]; exact upd_same), ngp, hn⟩⟩

/-! ### the next great number -/
def lstI (ns : List Int) : PyData := .list (ns.map .int)
theorem shaped_lstI (ns : List Int) : SeqAt.shaped (lstI ns) = true := shaped_tupI ns
theorem cb_int {π : Option Pn} {i : Int} : CbD K π (fun xs H Q => (∃ i, xs = [.int i] ∧ Q (.int i) H) ∨ ∃ k, xs = [.bl k] ∧ Q (.int (if k then 1 else 0)) H) [.int i] (· = .int i) := fun vs H0 H1 h o Q q => by
  obtain ⟨v, rfl, hv⟩ := dps1 h
  rw [dp_int hv]
  exact .inl ⟨i, rfl, q _ _ H0 H1 rfl o.stp (.int _)⟩
theorem od_mod {π : Option Pn} {i j : Int} (h : 0 < j) : OpD K π (rI (fun _ j => 0 < j) fun i j => .int (i % j)) (.int i) (.int j) (· = .int (i % j)) := od_I h fun _ => .int _
theorem od_pow {π : Option Pn} {i j : Int} (h : CPow i j) : OpD K π (rI CPow fun i j => .int (i ^ j.toNat)) (.int i) (.int j) (· = .int (i ^ j.toNat)) := od_I h fun _ => .int _
def freshPre : List PyData → Prop := fun ds => ds = []
def freshPost : List PyData → DP := fun _ d => ∃ z : Int, d = .int z
/-- the pen's cells are changed: the core stays -/
theorem okk_pen {q : Pn} {H0 H1 : Hp} {a b : Int} (o : Okk K (some q) H0 H1) : Stp K (some q) H0 H1 H0 (upd H1 q.p (.lst [.ref q.g, .int a, .int b])) := by
  obtain ⟨h0, pn⟩ := o.pen q rfl
  refine ⟨Ex.refl _, fun x h => .inl h, fun x u h => ?_, fun x u n h => ?_, fun q' e => ?_⟩
  · rw [upd_ne (fun z => by rw [z, h0] at h; cases h)]
    exact o.ex _ _ h
  · rw [upd_ne (n q rfl)]
    exact h
  · cases e
    refine ⟨⟨a, b, upd_same⟩, ?_, pn.ne, pn.few⟩
    rcases pn.given with (h | ⟨ob, h⟩) | h
    · exact .inl (.inl (by rw [upd_ne pn.ne]; exact h))
    · exact .inl (.inr ⟨ob, by rw [upd_ne pn.ne]; exact h⟩)
    · exact .inr h
theorem stp_some {q : Pn} {H0 H1 H2 H0' : Hp} (o : Okk K (some q) H0 H1) (s : Stp K none H1 H1 H0' H2) : Stp K (some q) H0 H1 H0 H2 := by
  have e : Ex H1 H2 := fun a u h => s.off a u (fun q z => by cases z) h
  exact o.more e
theorem scFresh : FnScope ["pen", "seat", "given", "cell", "prime", "state", "found", "lap"] ["pen"] (defScope sFresh) := ⟨rfl, rfl, rfl, by decide +kernel, rfl, by decide +kernel, by decide +kernel⟩
theorem c_fresh {f : Addr} {fd : FuncData} (F : Fun K "_law_fresh" "_law_fresh" sFresh f fd) (m : mg "_law_fresh" = some (.ref f)) (B : Blt mg) : Cal P w K mg base "_law_fresh" 1 ["pen"] (spP K freshPre freshPost) := by
  refine ⟨f, fd, F.ok scFresh (fun vs H Q E h => ?_) (fun cdv A outer s H vs Q E hr h => ?_), m, F.kp, F.binds (ps := ["pen"]) fun _ _ _ _ _ _ us hl => match us, hl with | [_], _ => rfl⟩
  · obtain ⟨q, H0, ws, ds, rfl, hd, rfl, _⟩ := h
    cases hd
    rfl
  obtain ⟨q, H0, ws, ds, rfl, hd, rfl, o0, k⟩ := h
  cases hd
  have nd := scFresh.nd
  refine ⟨_, (pss_cons (ps_par (i := 1) (j := 2) rfl nd rfl rfl (by decide) rfl rfl (pa_cons (pe_ix ix_list (pv 0) pe_int (fun _ _ => rfl)) (pa_cons (pe_ix ix_list (pv 0) pe_int (fun _ _ => rfl)) pa_nil)) (by rfl))
    (pss_cons (ps_asg (pe_op op_add (pv 1) pe_int) (pg_sub (pv 0) pe_int set_list))
    (pss_cons (ps_set (i := 3) nd rfl (Or.inl rfl) (pe_ifExp (pt_cmpR (op_neD hr.units) (pv 2) (pe_lst pa_nil) (nomark _)) (pe_ix ix_list (pv 2) (pe_op op_mod (pe_callTy call_int1 (by rfl) B.int (by decide +kernel) (pa_cons (pv 1) pa_nil)) (pe_callB (call_len_seq) (by rfl) B.len (by decide +kernel) (pa_cons (pv 2) pa_nil))) (fun _ _ => rfl)) pe_int))
    (pss_cons (ps_if (PW.pt (pw_and (pt_cmpR op_lt (pv 1) (pe_callB (call_len_seq) (by rfl) B.len (by decide +kernel) (pa_cons (pv 2) pa_nil)) (nomark _)) (pw_and1 (pt_cmpR op_ge (pv 3) (pe_op op_pow pe_int pe_int) (nomark _))))) (pss_one (ps_ret (pe_op op_sub (pv 3) (pe_op op_pow pe_int pe_int)))) pss_nil)
    (pss_cons (ps_set (i := 4) nd rfl (Or.inl rfl) pe_int)
    (pss_cons (ps_set (i := 5) nd rfl (Or.inl rfl) (pe_op op_mod (pe_callTy call_int1 (by rfl) B.int (by decide +kernel) (pa_cons (pe_op op_add (pe_op op_add (pe_op op_mul (pv 3) pe_int) (pe_op op_mul pe_int (pv 1))) pe_int) pa_nil)) (pv 4)))
    (pss_cons (ps_set (i := 6) nd rfl (Or.inl rfl) (pv 5))
    (pss_cons (ps_for PassesOwn.never rfl (pi_range1 rfl B.range (pa_cons pe_int pa_nil)) (pg_name (i := 7) nd rfl (Or.inl rfl)) (pss_cons (ps_set (i := 5) nd rfl (Or.inl rfl) (pe_op op_mod (pe_callTy call_int1 (by rfl) B.int (by decide +kernel) (pa_cons (pe_op op_add (pe_op op_add (pe_op op_mul (pv 5) (pv 5)) (pe_op op_mul (pe_op op_mul pe_int (pe_op op_add (pv 7) pe_int)) (pe_op op_add (pv 1) pe_int))) (pv 3)) pa_nil)) (pv 4)))
    (pss_one (ps_set (i := 6) nd rfl (Or.inl rfl) (pe_op op_add (pe_op op_mul (pv 6) (pv 4)) (pv 5))))))
    (pss_one (ps_ret (pv 6))))))))))), ?_⟩
  obtain ⟨h0, pn⟩ := o0.pen q rfl
  obtain ⟨seat, left, hc⟩ := pn.cells
  refine ⟨_, rfl, q.p, _, 1, .int seat, rfl, rfl, sq_of hc, rfl, _, rfl, q.p, _, 0, .ref q.g, rfl, rfl, sq_of hc, rfl, _, _, rfl, ?_⟩
  refine ⟨_, rfl, _, _, rfl, rfl, _, rfl, q.p, _, 1, 1, rfl, rfl, hc, rfl, ?_⟩
  have s1 : Stp K (some q) H0 H H0 (upd H q.p (.lst [.ref q.g, .int (seat + 1), .int left])) := okk_pen o0
  have o1 := s1.okk o0
  have fin : ∀ {M' H' : Hp}, Stp K none (upd H q.p (.lst [.ref q.g, .int (seat + 1), .int left])) (upd H q.p (.lst [.ref q.g, .int (seat + 1), .int left])) M' H' → Stp K (some q) H0 H H0 H' := fun s => s1.trans (stp_some o1 s) o0
  show tSeq _ _ _ _ (upd H q.p (.lst [.ref q.g, .int (seat + 1), .int left]))
  generalize hH1 : upd H q.p (.lst [.ref q.g, .int (seat + 1), .int left]) = H1 at fin o1
  have oc : Okk K none H1 H1 := Okk.refl rfl
  have dg : Da K H1 (.ref q.g) (lstI q.ns) := .lst (o1.pen q rfl).2.given (dps_int q.ns)
  have hlen : (q.ns.map PyData.int).length = q.ns.length := List.length_map _
  refine q_asg (K := K) (π := none) (M := H1) (Φ := fun d => ∃ c : Int, d = .int c) (ed_if (Φb := fun b => b = true → q.ns ≠ []) ((eb_t (ed_op' (ed_var rfl dg) (ed_l el_nil) (od_neD (shaped_lstI _) (shaped_lstI [])))).imp fun b e hb hn => ?_) (fun hne => ?_) (fun _ => ed_i.imp fun d e => ⟨0, e⟩)) oc fun v d M2 H2 hd s2 kv => ?_
  · rw [hb, hn] at e
    cases e
  · have hne := hne rfl
    have hpos : (0 : Int) < ((q.ns.map PyData.int).length : Nat) := by
      rw [hlen]
      have := List.length_pos_iff.mpr hne
      omega
    have hm0 : 0 ≤ seat % ((q.ns.map PyData.int).length : Nat) := Int.emod_nonneg _ (by omega)
    have hm1 : seat % ((q.ns.map PyData.int).length : Nat) < ((q.ns.map PyData.int).length : Nat) := Int.emod_lt_of_pos _ hpos
    obtain ⟨c, hat⟩ : ∃ c : Int, atI (q.ns.map PyData.int) (seat % ((q.ns.map PyData.int).length : Nat)) = some (.int c) := by
      generalize seat % ((q.ns.map PyData.int).length : Nat) = z at hm0 hm1
      obtain ⟨n, rfl⟩ := Int.eq_ofNat_of_zero_le hm0
      have hn : n < q.ns.length := by omega
      refine ⟨q.ns[n], atI_nat ?_⟩
      rw [List.getElem?_map, List.getElem?_eq_getElem hn]
      rfl
    exact (ed_op' (ed_var rfl dg) (ed_op' (ed_cb' (el_c (ed_var rfl (.int _)) el_nil) cb_int) (ed_cb' (el_c (ed_var rfl dg) el_nil) cb_lenL) (od_mod hpos)) (od_ixL hat)).imp fun d e => ⟨_, e⟩
  obtain ⟨c, rfl⟩ := hd
  rw [dp_int kv]
  have o2 := s2.okk oc
  refine q_when (K := K) (π := none) (M := M2) (eb_and' (eb_t (ed_op' (ed_var rfl (.int _)) (ed_cb' (el_c (ed_var rfl (dp_ex s2.ex dg)) el_nil) cb_lenL) od_lt)) (fun _ => eb_t (ed_op' (ed_var rfl (.int _)) (ed_op' ed_i ed_i (od_pow ⟨by decide, by decide, by decide⟩)) od_ge))) o2 (fun _ M3 H3 s3 => ?_) (fun _ M3 H3 s3 => ?_)
  · refine s_ret (K := K) (π := none) (M := M3) (ed_op' (ed_var rfl (.int _)) (ed_op' ed_i ed_i (od_pow ⟨by decide, by decide, by decide⟩)) od_sub) (s3.okk o2) fun v d M4 H4 e s4 k4 => ?_
    subst e
    exact k v _ H0 H4 ⟨_, rfl⟩ (fin ((s2.trans s3 oc).trans s4 oc)) (by rw [dp_int k4]; exact .int _)
  have S3 := s2.trans s3 oc
  have pp : (0 : Int) < 2305843009213693951 := by decide
  refine q_asg (K := K) (π := none) (M := M3) ed_i (S3.okk oc) fun v d M4 H4 e s4 kv4 => ?_
  subst e
  rw [dp_int kv4]
  have S4 := S3.trans s4 oc
  refine q_asg (K := K) (π := none) (M := M4) (ed_op' (ed_cb' (el_c (ed_op' (ed_op' (ed_op' (ed_var rfl (.int _)) ed_i (od_mul (.inr ⟨by decide, by decide⟩))) (ed_op' ed_i (ed_var rfl (.int _)) (od_mul (.inl ⟨by decide, by decide⟩))) od_add) ed_i od_add) el_nil) cb_int) (ed_var rfl (.int _)) (od_mod pp)) (S4.okk oc) fun v d M5 H5 e s5 kv5 => ?_
  subst e
  rw [dp_int kv5]
  have S5 := S4.trans s5 oc
  have st1 : ∀ z : Int, 0 ≤ z % 2305843009213693951 ∧ z % 2305843009213693951 < 2305843009213693951 := fun z => ⟨Int.emod_nonneg _ (by decide), Int.emod_lt_of_pos _ pp⟩
  obtain ⟨a1, a2⟩ := st1 (c * 48271 + 60013 * seat + 31)
  generalize (c * 48271 + 60013 * seat + 31) % 2305843009213693951 = state at a1 a2
  refine q_asg (K := K) (π := none) (M := M5) (ed_var rfl (.int state)) (S5.okk oc) fun v d M6 H6 e s6 kv6 => ?_
  subst e
  rw [dp_int kv6]
  have S6 := S5.trans s6 oc
  refine q_for (K := K) (π := none) (M := M6) (Φx := (· = upto 0 6)) (ei_range1 (Φl := (· = [.int 6])) (el_c ed_i el_nil) (fun ds e => ⟨6, e, by decide, by decide, rfl⟩)) (S6.okk oc) tg1 (fun _ _ _ _ => trivial)
    (fun xs i σ' M' H' => ∃ (st fo : Int) (lv : Option V), σ' = [some (.ref q.p), some (.int seat), some (.ref q.g), some (.int c), some (.int 2305843009213693951), some (.int st), some (.int fo), lv] ∧ Stp K none H1 H1 M' H' ∧ 0 ≤ st ∧ st < 2305843009213693951) ?_ ?_ ?_ ?_
  · rintro xs i σ' M' H' ⟨_, _, _, rfl, s, _⟩
    exact s.okk oc
  · rintro xs N H7 rfl s7
    exact ⟨state, state, none, rfl, S6.trans s7 oc, a1, a2⟩
  · rintro xs i d σ' M' H' M7 H7 σ2 rfl e1 ⟨st, fo, lv, rfl, s7, b1, b2⟩ s8 ed ⟨x, kx, rfl⟩
    obtain ⟨hi, rfl⟩ := upto_get ed
    rw [dp_int kx]
    have S8 := s7.trans s8 oc
    refine q_asg (K := K) (π := none) (M := M7) (ed_op' (ed_cb' (el_c (ed_op' (ed_op' (ed_op' (ed_var rfl (.int _)) (ed_var rfl (.int _)) (od_mul (.inl ⟨by omega, by omega⟩))) (ed_op' (ed_op' ed_i (ed_op' (ed_var rfl (.int _)) ed_i od_add) (od_mul (.inl ⟨by decide, by decide⟩))) (ed_op' (ed_var rfl (.int _)) ed_i od_add) (od_mul (.inl ⟨by omega, by omega⟩))) od_add) (ed_var rfl (.int _)) od_add) el_nil) cb_int) (ed_var rfl (.int _)) (od_mod pp)) (S8.okk oc) fun v d M9 H9 e s9 kv9 => ?_
    subst e
    rw [dp_int kv9]
    have S9 := S8.trans s9 oc
    refine s_asg (K := K) (π := none) (M := M9) (ed_op' (ed_op' (ed_var rfl (.int _)) (ed_var rfl (.int _)) (od_mul (.inr ⟨by decide, by decide⟩))) (ed_var rfl (.int _)) od_add) (S9.okk oc) fun v d M10 H10 e s10 kv10 => ?_
    subst e
    rw [dp_int kv10]
    exact ⟨M10, (s8.ex.trans s9.ex).trans s10.ex, _, _, _, rfl, S9.trans s10 oc, st1 _⟩
  · rintro xs σ' M' H' rfl e1 ⟨st, fo, lv, rfl, s7, b1, b2⟩
    refine s_ret (K := K) (π := none) (M := M') (ed_var rfl (.int _)) (s7.okk oc) fun v d M4 H4 e s4 k4 => ?_
    subst e
    exact k v _ H0 H4 ⟨_, rfl⟩ (fin (s7.trans s4 oc)) (by rw [dp_int k4]; exact .int _)

/-! ### a drawn number -/
section
variable {q : Pn} {σ : L2.St} {M H : Hp} {i : Nat} {te : TE} {D : Ends} {tz : TS}
theorem ed_cell (hv : σ[i]? = some (some (.ref q.p))) : EvD K (some q) (tOp (rIxL K) (tVar i) (tC (.int 2))) σ M (fun d => ∃ z : Int, d = .int z) := fun H1 o Q k => by
  obtain ⟨a, b, hc⟩ := (o.pen q rfl).2.cells
  exact ⟨_, hv, q.p, _, 2, .int b, rfl, rfl, sq_of hc, rfl, k _ _ M H1 ⟨b, rfl⟩ o.stp (.int _)⟩
theorem s_cell (hv : σ[i]? = some (some (.ref q.p))) (h : EvD K (some q) te σ M (fun d => ∃ z : Int, d = .int z)) (o : Okk K (some q) M H) (k : ∀ M' H', Stp K (some q) M H M' H' → D.nx σ H') : tAsg te (gSub (tVar i) (tC (.int 2)) rSetL) D σ H :=
  h H o _ fun v d N H2 hd s kv => by
    obtain ⟨z, rfl⟩ := hd
    rw [dp_int kv]
    have o2 := s.okk o
    obtain ⟨a, b, hc⟩ := (o2.pen q rfl).2.cells
    exact ⟨_, hv, q.p, _, 2, 2, rfl, rfl, hc, rfl, k N _ (s.trans (okk_pen o2) o)⟩
theorem q_cell (hv : σ[i]? = some (some (.ref q.p))) (h : EvD K (some q) te σ M (fun d => ∃ z : Int, d = .int z)) (o : Okk K (some q) M H) (k : ∀ M' H', Stp K (some q) M H M' H' → tz D σ H') : tSeq (tAsg te (gSub (tVar i) (tC (.int 2)) rSetL)) tz D σ H :=
  s_cell (D := { D with nx := tz D }) hv h o k
end
def drawPre : List PyData → Prop := fun ds => ∃ b : Int, ds = [.int b] ∧ 1 ≤ b ∧ b < 2 ^ 300
def drawPost : List PyData → DP := fun ds d => ∀ b : Int, ds = [.int b] → ∃ z : Int, d = .int z ∧ 0 ≤ z ∧ z < b
theorem scDraw : FnScope ["pen", "bound", "digit"] ["pen", "bound"] (defScope sDraw) := ⟨rfl, rfl, rfl, by decide +kernel, rfl, by decide +kernel, by decide +kernel⟩
theorem c_draw {f : Addr} {fd : FuncData} (F : Fun K "_law_draw" "_law_draw" sDraw f fd) (m : mg "_law_draw" = some (.ref f)) (B : Blt mg) (C_law_fresh : Cal P w K mg base "_law_fresh" 1 ["pen"] (spP K freshPre freshPost)) :
    Cal P w K mg base "_law_draw" 2 ["pen", "bound"] (spP K drawPre drawPost) := by
  refine ⟨f, fd, F.ok scDraw (fun vs H Q E h => ?_) (fun cdv A outer s H vs Q E hr h => ?_), m, F.kp, F.binds (ps := ["pen", "bound"]) fun _ _ _ _ _ _ us hl => match us, hl with | [_, _], _ => rfl⟩
  · obtain ⟨q, H0, ws, ds, rfl, hd, ⟨b, rfl, _⟩, _⟩ := h
    have := dps_len hd
    simp only [List.length_cons, List.length_nil] at this ⊢
    omega
  obtain ⟨q, H0, ws, ds, rfl, hd, ⟨b, rfl, hb1, hb2⟩, o0, k⟩ := h
  obtain ⟨vb, rfl, kb⟩ := dps1 hd
  rw [dp_int kb]
  have nd := scDraw.nd
  refine ⟨_, (pss_cons (ps_if (pt_cmpR op_lt (pe_ix ix_list (pv 0) pe_int (fun _ _ => rfl)) (pv 1) (nomark _)) (pss_one (ps_asg (pe_c C_law_fresh (hr.mono (by decide)) rfl (pa_cons (pv 0) pa_nil)) (pg_sub (pv 0) pe_int set_list))) pss_nil)
    (pss_cons (ps_set (i := 2) nd rfl (Or.inl rfl) (pe_op op_mod (pe_callTy call_int1 (by rfl) B.int (by decide +kernel) (pa_cons (pe_ix ix_list (pv 0) pe_int (fun _ _ => rfl)) pa_nil)) (pv 1)))
    (pss_cons (ps_asg (pe_op op_fdivW (pe_callTy call_int1 (by rfl) B.int (by decide +kernel) (pa_cons (pe_ix ix_list (pv 0) pe_int (fun _ _ => rfl)) pa_nil)) (pv 1)) (pg_sub (pv 0) pe_int set_list))
    (pss_one (ps_ret (pv 2)))))), ?_⟩
  have hpos : (0 : Int) < b := by omega
  have hdw : ∀ z : Int, CDivW z b := fun z => wide_div hpos (b := 300) (by
    have e : (2 : Int) ^ 300 = ((2 ^ 300 : Nat) : Int) := by norm_cast
    rw [e] at hb2
    omega) (by decide) (by decide)
  have rest : ∀ M2 H2, Stp K (some q) H0 H M2 H2 → tSeq (tAsg (tOp (rI (fun _ j => 0 < j) fun i j => .int (i % j)) (tCB (fun xs H Q => (∃ i, xs = [.int i] ∧ Q (.int i) H) ∨ ∃ k, xs = [.bl k] ∧ Q (.int (if k then 1 else 0)) H) (tCons (tOp (rIxL K) (tVar 0) (tC (.int 2))) tNil)) (tVar 1)) (gName 2))
      (tSeq (tAsg (tOp (rI CDivW fun i j => .int (i / j)) (tCB (fun xs H Q => (∃ i, xs = [.int i] ∧ Q (.int i) H) ∨ ∃ k, xs = [.bl k] ∧ Q (.int (if k then 1 else 0)) H) (tCons (tOp (rIxL K) (tVar 0) (tC (.int 2))) tNil)) (tVar 1)) (gSub (tVar 0) (tC (.int 2)) rSetL)) (tRet (tVar 2)))
      { nx := fun _ H' => Q .non H', rt := Q } [some (.ref q.p), some (.int b), none] H2 := fun M2 H2 S2 => by
    refine q_asg (K := K) (π := some q) (M := M2) (Φ := fun d => ∃ z : Int, d = .int z ∧ 0 ≤ z ∧ z < b) (ed_op (Φa := fun d => ∃ z : Int, d = .int z) (Φb := (· = .int b)) (ed_cb (Φl := fun ds => ∃ z : Int, ds = [.int z]) (el_cons (ed_cell rfl) el_nil fun d ds hd e => by
      obtain ⟨z, rfl⟩ := hd
      exact ⟨z, by rw [e]⟩) fun ds hd => ?_) (ed_var rfl (.int _)) fun x y hx hy => ?_) (S2.okk o0) fun v d M3 H3 hd s3 kv => ?_
    · obtain ⟨z, rfl⟩ := hd
      exact fun vs H0 H1 h o Q q => cb_int vs H0 H1 h o Q fun v d N H2 e => q v d N H2 ⟨z, e⟩
    · obtain ⟨z, rfl⟩ := hx
      subst hy
      exact fun x y H0 H1 hx hy o Q q => od_mod hpos x y H0 H1 hx hy o Q fun v d N H2 e => q v d N H2 ⟨_, e, Int.emod_nonneg _ (by omega), Int.emod_lt_of_pos _ hpos⟩
    obtain ⟨z, rfl, hz0, hz1⟩ := hd
    rw [dp_int kv]
    have S3 := S2.trans s3 o0
    refine q_cell (M := M3) rfl (ed_op (Φa := fun d => ∃ z : Int, d = .int z) (Φb := (· = .int b)) (ed_cb (Φl := fun ds => ∃ z : Int, ds = [.int z]) (el_cons (ed_cell rfl) el_nil fun d ds hd e => by
      obtain ⟨z, rfl⟩ := hd
      exact ⟨z, by rw [e]⟩) fun ds hd => ?_) (ed_var rfl (.int _)) fun x y hx hy => ?_) (S3.okk o0) fun M4 H4 s4 => ?_
    · obtain ⟨z, rfl⟩ := hd
      exact fun vs H0 H1 h o Q q => cb_int vs H0 H1 h o Q fun v d N H2 e => q v d N H2 ⟨z, e⟩
    · obtain ⟨z, rfl⟩ := hx
      subst hy
      exact fun x y H0 H1 hx hy o Q q => od_I (d := .int (z / b)) (hdw z) (fun _ => .int _) x y H0 H1 hx hy o Q fun v d N H2 e => q v d N H2 ⟨_, e⟩
    exact s_ret (K := K) (π := some q) (M := M4) (ed_var rfl (.int _)) ((S3.trans s4 o0).okk o0) (k.go o0 (S3.trans s4 o0) fun d e b' he => by
      injection he with he
      injection he with he
      subst he
      exact ⟨z, e, hz0, hz1⟩)
  refine q_when (K := K) (π := some q) (M := H0) (Φb := fun _ => True) (eb_test (Φ := fun d => ∃ b, d = .bool b) (ed_op (Φa := fun d => ∃ z : Int, d = .int z) (Φb := (· = .int b)) (ed_cell rfl) (ed_var rfl (.int _)) fun x y hx hy => ?_) fun d hd => ?_) o0 (fun _ M1 H1 s1 => ?_) (fun _ M1 H1 s1 => rest M1 H1 s1)
  · obtain ⟨z, rfl⟩ := hx
    subst hy
    exact fun x y H0 H1 hx hy o Q q => od_lt x y H0 H1 hx hy o Q fun v d N H2 e => q v d N H2 ⟨_, e⟩
  · obtain ⟨b, rfl⟩ := hd
    exact ⟨b, rfl, trivial⟩
  · refine s_cell (M := M1) rfl (ed_callP (Φl := (· = [])) rfl el_nil (fun ds e => e) fun ds d _ hp => hp) (s1.okk o0) fun M2 H2 s2 => ?_
    exact rest M2 H2 (s1.trans s2 o0)
end
end K86

set_option maxRecDepth 100000
set_option maxHeartbeats 4000000
namespace K86
open PySem PySem.Spec PyProof.Rows L2 Gd Dt Dl Ee
open Evl (Ex Ex.refl Ex.trans Ex.new ex_l ex_t sq_of st_of fresh_back)
abbrev sOne : Stmt := top 21
abbrev sOdd : Stmt := top 22
abbrev sSort : Stmt := top 23
abbrev sBuilt : Stmt := top 24
abbrev sRight : Stmt := top 25
/-! ### new lists, put together -/
section
variable {K : PySem.W.Frag} {π : Option Pn} {σ : L2.St} {H0 H0' H1 M H : Hp} {te ta tb : TE} {tl : TA} {Φl Ψl : List PyData → Prop} {i : Nat} {D : Ends} {tz : TS}
theorem ef_mono (e : Ex H0 H0') (h : EvF K π te σ H0 Φl) : EvF K π te σ H0' Φl := fun H1 o Q q => h H1 (okk_less e o) Q fun p vs ds N H2 hd s hp kd => by
  obtain ⟨M, hM, s'⟩ := stp_more e o s
  exact q p vs ds M H2 hd s' (hM _ _ hp) (dps_ex hM kd)
theorem ef_lst (h : EvL K π tl σ H0 Φl) (hz : ∀ ds, Φl ds → ds.length ≤ 100000) : EvF K π (tLst tl) σ H0 Φl := fun H1 o Q q =>
  h H1 o _ fun vs ds N H2 pd s1 kd => ⟨Evl.sz_of (by rw [dps_len kd]; exact hz ds pd), fun p hp => by
    have s2 : Stp K π N H2 (upd N p (.lst vs)) (upd H2 p (.lst vs)) := (s1.okk o).new hp (Ex.new hp) upd_same
    exact q p vs ds _ _ pd (s1.trans s2 o) upd_same (dps_ex s2.ex kd)⟩
theorem ef_l {ds : List PyData} (h : EvL K π tl σ H0 (· = ds)) (hz : ds.length ≤ 100000 := by first | decide | (simp only [List.length_cons, List.length_nil]; decide)) : EvF K π (tLst tl) σ H0 (· = ds) := ef_lst h fun _ e => by rw [e]; exact hz
theorem ef_var {p : Addr} {vs : List V} {ds : List PyData} (h : σ[i]? = some (some (.ref p))) (hp : H0 p = some (.lst vs)) (kd : DaAll K H0 vs ds) : EvF K π (tVar i) σ H0 (· = ds) := fun H1 o Q q => ⟨_, h, q p vs ds H0 H1 rfl o.stp hp kd⟩
theorem ef_cat {xs ys : List PyData} (ha : EvF K π ta σ H0 (· = xs)) (hb : EvF K π tb σ H0 (· = ys)) (hz : xs.length + ys.length ≤ 100000 := by first | decide | (simp only [List.length_append, List.length_cons, List.length_nil]; decide)) : EvF K π (tOp rCat ta tb) σ H0 (· = xs ++ ys) := fun H1 o Q q =>
  ha H1 o _ fun p vs ds N H2 e1 s1 hp kd => ef_mono s1.ex hb H2 (s1.okk o) _ fun p2 vs2 ds2 N2 H3 e2 s2 hp2 kd2 => by
    subst e1
    subst e2
    have S := s1.trans s2 o
    have o2 := S.okk o
    refine ⟨p, p2, vs, vs2, rfl, rfl, o2.ex _ _ (s2.ex _ _ hp), o2.ex _ _ hp2, Evl.sz_of (by rw [dps_len kd, dps_len kd2]; exact hz), fun x hx => ?_⟩
    have s4 := o2.new hx (Ex.new hx) (upd_same (o := .lst (vs ++ vs2)))
    exact q x _ _ _ _ rfl (S.trans s4 o) upd_same (dps_ex s4.ex (dps_app (dps_ex s2.ex kd) kd2))
theorem q_asgF (h : EvF K π te σ M Φl) (o : Okk K π M H) (k : ∀ p vs ds M' H', Φl ds → Stp K π M H M' H' → M' p = some (.lst vs) → DaAll K M' vs ds → tz D (σ.set i (some (.ref p))) H') : tSeq (tAsg te (gName i)) tz D σ H :=
  h H o _ fun p vs ds N H2 hd s hp kd => k p vs ds N H2 hd s hp kd
end
section
variable {P : Program} {w : World} {K : PySem.W.Frag} {mg : Str → Option Value} {base : Heap}
/-! ### one of a list -/
def onePre : List PyData → Prop := fun ds => ∃ xs : List PyData, ds = [.list xs] ∧ 1 ≤ xs.length ∧ xs.length ≤ 1000
def onePost : List PyData → DP := fun ds d => ∀ xs : List PyData, ds = [.list xs] → d ∈ xs
theorem scOne : FnScope ["pen", "some"] ["pen", "some"] (defScope sOne) := ⟨rfl, rfl, rfl, by decide +kernel, rfl, by decide +kernel, by decide +kernel⟩
theorem c_one {f : Addr} {fd : FuncData} (F : L2.Fun K "_law_one_of" "_law_one_of" sOne f fd) (m : mg "_law_one_of" = some (.ref f)) (B : Blt mg) (C_law_draw : Cal P w K mg base "_law_draw" 2 ["pen", "bound"] (spP K drawPre drawPost)) :
    Cal P w K mg base "_law_one_of" 3 ["pen", "some"] (spP K onePre onePost) := by
  refine ⟨f, fd, F.ok scOne (fun vs H Q E h => ?_) (fun cdv A outer s H vs Q E hr h => ?_), m, F.kp, F.binds (ps := ["pen", "some"]) fun _ _ _ _ _ _ us hl => match us, hl with | [_, _], _ => rfl⟩
  · obtain ⟨q, H0, ws, ds, rfl, hd, ⟨xs, rfl, _⟩, _⟩ := h
    have := dps_len hd
    simp only [List.length_cons, List.length_nil] at this ⊢
    omega
  obtain ⟨q, H0, ws, ds, rfl, hd, ⟨xs, rfl, hn, hx⟩, o0, k⟩ := h
  obtain ⟨vb, rfl, kb⟩ := dps1 hd
  have nd := scOne.nd
  refine ⟨_, (pss_one (ps_ret (pe_ix ix_list (pv 1) (pe_c C_law_draw (hr.mono (by decide)) rfl (pa_cons (pv 0) (pa_cons (pe_callB (call_len_seq) (by rfl) B.len (by decide +kernel) (pa_cons (pv 1) pa_nil)) pa_nil))) (fun _ _ => rfl)))), ?_⟩
  refine s_ret (K := K) (π := some q) (M := H0) (Φ := fun d => d ∈ xs) (ed_op (Φa := (· = .list xs)) (Φb := fun d => ∃ z : Int, d = .int z ∧ 0 ≤ z ∧ z < (xs.length : Nat)) (ed_var rfl kb) (ed_callP (Φl := (· = [.int (xs.length : Nat)])) rfl (el_c (ed_cb' (el_c (ed_var rfl kb) el_nil) cb_lenL) el_nil) (fun ds e => ?_) (fun ds d e hp => hp _ e)) ?_) o0 (k.go o0 o0.stp fun d hd xs' e => ?_)
  · have big : (1000 : Int) < 2 ^ 300 := by decide +kernel
    exact ⟨_, e, by omega, Int.lt_of_le_of_lt (by omega) big⟩
  · rintro a b rfl ⟨z, rfl, hz0, hz1⟩
    obtain ⟨n, rfl⟩ := Int.eq_ofNat_of_zero_le hz0
    have hlt : n < xs.length := by omega
    exact fun x y H0 H1 hx hy o Q q => od_ixL (atI_nat (List.getElem?_eq_getElem hlt)) x y H0 H1 hx hy o Q fun v d N H2 e => q v d N H2 (by rw [e]; exact List.getElem_mem hlt)
  · injection e with e
    injection e with e
    rw [← e]
    exact hd
/-! ### values of other kinds -/
def oddA : List PyData := [.none, .bool true, .bool false, .int (-1), .int 0, .int 1, .int 2, .int 3, .int 5, .int 8, .str "", .str "0", .str "send", .str "never", .tuple [], .list [], .dict [], .tuple [.int 0], .tuple [.int 0, .int 1], .tuple [.tuple []], .list [.int 0]]
def oddB : List PyData := [.int (10 ^ (41 : Int).toNat), .tuple [.str "rest"], .tuple [.str "send", .int 0, .int 0], .tuple [.str "test", .int 0], .tuple [.int 0, .tuple [.str "rest"], .int 0], .tuple [.tuple [.int 0], .tuple [.tuple []]]]
def oddPre : List PyData → Prop := fun ds => ds = []
def oddPost : List PyData → DP := fun _ d => d ∈ oddA ++ oddB
theorem ed_neg {π : Option Pn} {σ : L2.St} {H0 : Hp} {te : TE} {i : Int} (h : EvD K π te σ H0 (· = .int i)) : EvD K π (tUn (rU fun i => .int (-i)) te) σ H0 (· = .int (-i)) := fun H1 o Q q => h H1 o _ fun v d N H2 e s kv => by
  subst e
  exact ⟨i, dp_int kv, q _ _ N H2 rfl s (.int _)⟩
theorem ef_odd {q : Pn} {σ : L2.St} {H0 : Hp} : EvF K (some q) (tLst (tCons (tC .non) (tCons (tC (.bl true)) (tCons (tC (.bl false)) (tCons (tUn (rU fun i => .int (-i)) (tC (.int 1))) (tCons (tC (.int 0)) (tCons (tC (.int 1)) (tCons (tC (.int 2)) (tCons (tC (.int 3)) (tCons (tC (.int 5)) (tCons (tC (.int 8)) (tCons (tC (.str "")) (tCons (tC (.str "0")) (tCons (tC (.str "send")) (tCons (tC (.str "never")) (tCons (tTup tNil) (tCons (tLst tNil) (tCons tDNewK
    (tCons (tTup (tCons (tC (.int 0)) tNil)) (tCons (tTup (tCons (tC (.int 0)) (tCons (tC (.int 1)) tNil))) (tCons (tTup (tCons (tTup tNil) tNil)) (tCons (tLst (tCons (tC (.int 0)) tNil)) tNil)))))))))))))))))))))) σ H0 (· = oddA) :=
  ef_l (ds := oddA) (el_c ed_n (el_c ed_bl (el_c ed_bl (el_c (ed_neg ed_i) (el_c ed_i (el_c ed_i (el_c ed_i (el_c ed_i (el_c ed_i (el_c ed_i (el_c ed_s (el_c ed_s (el_c ed_s (el_c ed_s (el_c (ed_t el_nil) (el_c (ed_l el_nil) (el_c ed_dict (el_c (ed_t (el_c ed_i el_nil)) (el_c (ed_t (el_c ed_i (el_c ed_i el_nil))) (el_c (ed_t (el_c (ed_t el_nil) el_nil)) (el_c (ed_l (el_c ed_i el_nil)) el_nil))))))))))))))))))))) (by decide)
theorem scOdd : FnScope ["pen", "some"] ["pen"] (defScope sOdd) := ⟨rfl, rfl, rfl, by decide +kernel, rfl, by decide +kernel, by decide +kernel⟩
theorem c_odd {f : Addr} {fd : FuncData} (F : L2.Fun K "_law_odd" "_law_odd" sOdd f fd) (m : mg "_law_odd" = some (.ref f)) (B : Blt mg) (C_law_one_of : Cal P w K mg base "_law_one_of" 3 ["pen", "some"] (spP K onePre onePost)) :
    Cal P w K mg base "_law_odd" 4 ["pen"] (spP K oddPre oddPost) := by
  refine ⟨f, fd, F.ok scOdd (fun vs H Q E h => ?_) (fun cdv A outer s H vs Q E hr h => ?_), m, F.kp, F.binds (ps := ["pen"]) fun _ _ _ _ _ _ us hl => match us, hl with | [_], _ => rfl⟩
  · obtain ⟨q, H0, ws, ds, rfl, hd, rfl, _⟩ := h
    cases hd
    rfl
  obtain ⟨q, H0, ws, ds, rfl, hd, rfl, o0, k⟩ := h
  cases hd
  have nd := scOdd.nd
  refine ⟨_, (pss_cons (ps_set (i := 1) nd rfl (Or.inl rfl) (pe_lst (pa_cons pe_non (pa_cons pe_bl (pa_cons pe_bl (pa_cons (pe_un un_neg pe_int) (pa_cons pe_int (pa_cons pe_int (pa_cons pe_int (pa_cons pe_int (pa_cons pe_int (pa_cons pe_int (pa_cons pe_str (pa_cons pe_str (pa_cons pe_str (pa_cons pe_str (pa_cons (pe_tup pa_nil) (pa_cons (pe_lst pa_nil) (pa_cons pe_dnewK (pa_cons (pe_tup (pa_cons pe_int pa_nil)) (pa_cons (pe_tup (pa_cons pe_int (pa_cons pe_int pa_nil))) (pa_cons (pe_tup (pa_cons (pe_tup pa_nil) pa_nil)) (pa_cons (pe_lst (pa_cons pe_int pa_nil)) pa_nil)))))))))))))))))))))))
    (pss_one (ps_ret (pe_c C_law_one_of (hr.mono (by decide)) rfl (pa_cons (pv 0) (pa_cons (pe_op op_cat (pv 1) (pe_lst (pa_cons (pe_op op_pow pe_int pe_int) (pa_cons (pe_tup (pa_cons pe_str pa_nil)) (pa_cons (pe_tup (pa_cons pe_str (pa_cons pe_int (pa_cons pe_int pa_nil)))) (pa_cons (pe_tup (pa_cons pe_str (pa_cons pe_int pa_nil))) (pa_cons (pe_tup (pa_cons pe_int (pa_cons (pe_tup (pa_cons pe_str pa_nil)) (pa_cons pe_int pa_nil)))) (pa_cons (pe_tup (pa_cons (pe_tup (pa_cons pe_int pa_nil)) (pa_cons (pe_tup (pa_cons (pe_tup pa_nil) pa_nil)) pa_nil))) pa_nil)))))))) pa_nil)))))), ?_⟩
  refine q_asgF (K := K) (π := some q) (M := H0) ef_odd o0 fun p vs ds M H' e s1 hp kd => ?_
  subst e
  refine s_ret (K := K) (π := some q) (M := M) (Φ := fun d => d ∈ oddA ++ oddB) (ed_callP (Φl := (· = [.list (oddA ++ oddB)])) rfl (el_c (EvF.ed (ef_cat (ef_var rfl hp kd) (ef_l (ds := oddB) (el_c (ed_op' ed_i ed_i (od_pow ⟨by decide, by decide, by decide⟩)) (el_c (ed_t (el_c ed_s el_nil)) (el_c (ed_t (el_c ed_s (el_c ed_i (el_c ed_i el_nil)))) (el_c (ed_t (el_c ed_s (el_c ed_i el_nil))) (el_c (ed_t (el_c ed_i (el_c (ed_t (el_c ed_s el_nil)) (el_c ed_i el_nil)))) (el_c (ed_t (el_c (ed_t (el_c ed_i el_nil)) (el_c (ed_t (el_c (ed_t el_nil) el_nil)) el_nil))) el_nil)))))) (by decide)) (by decide)) fun ds e => by rw [e]) el_nil) (fun ds e => ?_) (fun ds d e hp => hp _ e)) (s1.okk o0) (k.go o0 s1 fun d hd => hd)
  exact ⟨_, e, by decide, by decide⟩
end
end K86

set_option maxRecDepth 100000
set_option maxHeartbeats 4000000
namespace K86
open PySem PySem.Spec PyProof.Rows L2 Gd Dt Dl Ee
open Evl (Ex Ex.refl Ex.trans Ex.new ex_l ex_t sq_of st_of fresh_back)
/-- no name of the built-ins that are used is taken -/
structure B86 (mg : Str → Option Value) : Prop extends Blt mg where
  isi : mg "isinstance" = none
  b0 : mg "ValueError" = none
  b1 : mg "RuntimeError" = none
  b2 : mg "OverflowError" = none
  b3 : mg "LookupError" = none
  b4 : mg "TypeError" = none
  b5 : mg "KeyError" = none
  b6 : mg "IndexError" = none
  b7 : mg "NotImplementedError" = none
/-- the sixteen classes, in the law's order -/
structure Txt (P : Program) (w : World) (K : PySem.W.Frag) (mg : Str → Option Value) (base : Heap) (c : Nat → Addr) : Prop where
  x0 : Err P w K mg base "InvalidProgram" (c 0) mVal ["part"] (sp1 (c 0) "part")
  x1 : Err P w K mg base "InvalidLot" (c 1) mVal [] sp0
  x2 : Err P w K mg base "InvalidSituation" (c 2) mVal ["index"] (sp1 (c 2) "index")
  x3 : Err P w K mg base "InvalidOptions" (c 3) mVal ["index"] (sp1 (c 3) "index")
  x4 : Err P w K mg base "InvalidClaim" (c 4) mVal ["part"] (sp1 (c 4) "part")
  x5 : Err P w K mg base "ParseError" (c 5) mVal ["line"] (sp1 (c 5) "line")
  x6 : Err P w K mg base "CannotDo" (c 6) mRun [] sp0
  x7 : Err P w K mg base "CannotLose" (c 7) mRun [] sp0
  x8 : Err P w K mg base "Stuck" (c 8) mRun ["index"] (sp1 (c 8) "index")
  x9 : Err P w K mg base "Refused" (c 9) mRun ["index", "reason"] (sp2 (c 9) "index" "reason")
  x10 : Err P w K mg base "NothingDone" (c 10) mRun [] sp0
  x11 : Err P w K mg base "LimitExceeded" (c 11) mOvf ["limit"] (sp1 (c 11) "limit")
  x12 : Err P w K mg base "CannotWear" (c 12) mRun [] sp0
  x13 : Err P w K mg base "OutOfReach" (c 13) mRun ["goal"] (sp1 (c 13) "goal")
  x14 : Err P w K mg base "UnknownGoal" (c 14) mLok ["goal"] (sp1 (c 14) "goal")
  x15 : Err P w K mg base "InvalidGoals" (c 15) mVal ["index"] (sp1 (c 15) "index")
  inj : ∀ i j, i < 16 → j < 16 → c i = c j → i = j
def kindOf (i : Nat) : Nat := if i = 11 then 2 else if i = 14 then 3 else if i = 6 ∨ i = 7 ∨ i = 8 ∨ i = 9 ∨ i = 10 ∨ i = 12 ∨ i = 13 then 1 else 0
def mBof (i : Nat) : List Value := if i = 11 then mOvf else if i = 14 then mLok else if i = 6 ∨ i = 7 ∨ i = 8 ∨ i = 9 ∨ i = 10 ∨ i = 12 ∨ i = 13 then mRun else mVal
section
variable {P : Program} {w : World} {K : PySem.W.Frag} {mg : Str → Option Value} {base : Heap} {c : Nat → Addr}
theorem Txt.any (T : Txt P w K mg base c) : ∀ i, i < 16 → ∃ x fs sp, Err P w K mg base x (c i) (mBof i) fs sp
  | 0, _ => ⟨_, _, _, T.x0⟩
  | 1, _ => ⟨_, _, _, T.x1⟩
  | 2, _ => ⟨_, _, _, T.x2⟩
  | 3, _ => ⟨_, _, _, T.x3⟩
  | 4, _ => ⟨_, _, _, T.x4⟩
  | 5, _ => ⟨_, _, _, T.x5⟩
  | 6, _ => ⟨_, _, _, T.x6⟩
  | 7, _ => ⟨_, _, _, T.x7⟩
  | 8, _ => ⟨_, _, _, T.x8⟩
  | 9, _ => ⟨_, _, _, T.x9⟩
  | 10, _ => ⟨_, _, _, T.x10⟩
  | 11, _ => ⟨_, _, _, T.x11⟩
  | 12, _ => ⟨_, _, _, T.x12⟩
  | 13, _ => ⟨_, _, _, T.x13⟩
  | 14, _ => ⟨_, _, _, T.x14⟩
  | 15, _ => ⟨_, _, _, T.x15⟩
  | n + 16, h => absurd h (by omega)
theorem mB_types (i : Nat) : (mBof i).all (fun v => match v with | .type _ => true | _ => false) = true := by
  unfold mBof
  split
  · rfl
  · split
    · rfl
    · split <;> rfl
theorem Txt.errC (T : Txt P w K mg base c) {i : Nat} (hi : i < 16) : ErrC K (c i) := by
  obtain ⟨_, _, _, e⟩ := T.any i hi
  exact e.T
theorem Txt.own (T : Txt P w K mg base c) {i j : Nat} (hi : i < 16) (hj : j < 16) : PySem.W.kitOne K (.ref (c i)) (.ref (c j)) = some (decide (i = j)) := by
  obtain ⟨_, _, _, e⟩ := T.any i hi
  obtain ⟨_, _, _, e'⟩ := T.any j hj
  rw [kit_own e e' (mB_types i)]
  by_cases h : i = j
  · subst h
    simp
  · have h2 : c i ≠ c j := fun z => h (T.inj i j hi hj z)
    simp [h, h2]
theorem Txt.built (T : Txt P w K mg base c) {i : Nat} (hi : i < 16) {n : String} (h : PySem.W.kitMeta n = true) : PySem.W.kitOne K (.ref (c i)) (.type n) = some ((mBof i).contains (.type n)) := by
  obtain ⟨_, _, _, e⟩ := T.any i hi
  exact kit_built e h
theorem errD_inj {C C' : Addr} {fs fs' : List Str} {ds ds' : List PyData} (h : errD C fs ds = errD C' fs' ds') : C = C' := by
  unfold errD at h
  injection h with h
  injection h with h1 _
  injection h1 with h3 _
  injection h3 with h3
  exact Int.ofNat.inj h3
def clPre (c : Nat → Addr) : List PyData → Prop := fun ds => ∃ (i : Nat) (fs : List Str) (xs : List PyData), ds = [errD (c i) fs xs] ∧ i < 16
def sortL (i : Nat) : List PyData := (List.range 16).map fun k => .bool (decide (i = k))
def sortPost (c : Nat → Addr) : List PyData → DP := fun ds d => ∀ (i : Nat) (fs : List Str) (xs : List PyData), ds = [errD (c i) fs xs] → i < 16 → d = .list (sortL i)
def builtL (i : Nat) : List PyData := (List.range 8).map fun k => .bool (decide (kindOf i = k))
def builtPost (c : Nat → Addr) : List PyData → DP := fun ds d => ∀ (i : Nat) (fs : List Str) (xs : List PyData), ds = [errD (c i) fs xs] → i < 16 → d = .list (builtL i)
theorem scSort : FnScope ["e", "found"] ["e"] (defScope sSort) := ⟨rfl, rfl, rfl, by decide +kernel, rfl, by decide +kernel, by decide +kernel⟩
theorem c_sort {f : Addr} {fd : FuncData} (F : L2.Fun K "_law_sort" "_law_sort" sSort f fd) (m : mg "_law_sort" = some (.ref f)) (B : B86 mg) (T : Txt P w K mg base c) : Cal P w K mg base "_law_sort" 1 ["e"] (spD K (clPre c) (sortPost c)) := by
  refine ⟨f, fd, F.ok scSort (fun vs H Q E h => ?_) (fun cdv A outer s H vs Q E hr h => ?_), m, F.kp, F.binds (ps := ["e"]) fun _ _ _ _ _ _ us hl => match us, hl with | [_], _ => rfl⟩
  · obtain ⟨H0, ds, hd, ⟨i, fs, xs, rfl, _⟩, _⟩ := h
    exact dps_len hd
  obtain ⟨H0, ds, hd, ⟨i, fs, xs, rfl, hi⟩, o0, k⟩ := h
  obtain ⟨ve, rfl, ke⟩ := dps1 hd
  have nd := scSort.nd
  refine ⟨_, (pss_cons (ps_set (i := 1) nd rfl (Or.inl rfl) (pe_lst (pa_cons (pe_callB call_isErr (by rfl) B.isi (by decide +kernel) (pa_cons (pv 0) (pa_cons (pe_glob (v := .ref (c 0)) (by rfl) T.x0.at_ rfl) pa_nil))) (pa_cons (pe_callB call_isErr (by rfl) B.isi (by decide +kernel) (pa_cons (pv 0) (pa_cons (pe_glob (v := .ref (c 1)) (by rfl) T.x1.at_ rfl) pa_nil))) (pa_cons (pe_callB call_isErr (by rfl) B.isi (by decide +kernel) (pa_cons (pv 0) (pa_cons (pe_glob (v := .ref (c 2)) (by rfl) T.x2.at_ rfl) pa_nil))) pa_nil)))))
    (pss_cons (ps_set (i := 1) nd rfl (Or.inl rfl) (pe_op op_cat (pv 1) (pe_lst (pa_cons (pe_callB call_isErr (by rfl) B.isi (by decide +kernel) (pa_cons (pv 0) (pa_cons (pe_glob (v := .ref (c 3)) (by rfl) T.x3.at_ rfl) pa_nil))) (pa_cons (pe_callB call_isErr (by rfl) B.isi (by decide +kernel) (pa_cons (pv 0) (pa_cons (pe_glob (v := .ref (c 4)) (by rfl) T.x4.at_ rfl) pa_nil))) (pa_cons (pe_callB call_isErr (by rfl) B.isi (by decide +kernel) (pa_cons (pv 0) (pa_cons (pe_glob (v := .ref (c 5)) (by rfl) T.x5.at_ rfl) pa_nil))) pa_nil))))))
    (pss_cons (ps_set (i := 1) nd rfl (Or.inl rfl) (pe_op op_cat (pv 1) (pe_lst (pa_cons (pe_callB call_isErr (by rfl) B.isi (by decide +kernel) (pa_cons (pv 0) (pa_cons (pe_glob (v := .ref (c 6)) (by rfl) T.x6.at_ rfl) pa_nil))) (pa_cons (pe_callB call_isErr (by rfl) B.isi (by decide +kernel) (pa_cons (pv 0) (pa_cons (pe_glob (v := .ref (c 7)) (by rfl) T.x7.at_ rfl) pa_nil))) (pa_cons (pe_callB call_isErr (by rfl) B.isi (by decide +kernel) (pa_cons (pv 0) (pa_cons (pe_glob (v := .ref (c 8)) (by rfl) T.x8.at_ rfl) pa_nil))) pa_nil))))))
    (pss_cons (ps_set (i := 1) nd rfl (Or.inl rfl) (pe_op op_cat (pv 1) (pe_lst (pa_cons (pe_callB call_isErr (by rfl) B.isi (by decide +kernel) (pa_cons (pv 0) (pa_cons (pe_glob (v := .ref (c 9)) (by rfl) T.x9.at_ rfl) pa_nil))) (pa_cons (pe_callB call_isErr (by rfl) B.isi (by decide +kernel) (pa_cons (pv 0) (pa_cons (pe_glob (v := .ref (c 10)) (by rfl) T.x10.at_ rfl) pa_nil))) (pa_cons (pe_callB call_isErr (by rfl) B.isi (by decide +kernel) (pa_cons (pv 0) (pa_cons (pe_glob (v := .ref (c 11)) (by rfl) T.x11.at_ rfl) pa_nil))) pa_nil))))))
    (pss_cons (ps_set (i := 1) nd rfl (Or.inl rfl) (pe_op op_cat (pv 1) (pe_lst (pa_cons (pe_callB call_isErr (by rfl) B.isi (by decide +kernel) (pa_cons (pv 0) (pa_cons (pe_glob (v := .ref (c 12)) (by rfl) T.x12.at_ rfl) pa_nil))) (pa_cons (pe_callB call_isErr (by rfl) B.isi (by decide +kernel) (pa_cons (pv 0) (pa_cons (pe_glob (v := .ref (c 13)) (by rfl) T.x13.at_ rfl) pa_nil))) (pa_cons (pe_callB call_isErr (by rfl) B.isi (by decide +kernel) (pa_cons (pv 0) (pa_cons (pe_glob (v := .ref (c 14)) (by rfl) T.x14.at_ rfl) pa_nil))) pa_nil))))))
    (pss_one (ps_ret (pe_op op_cat (pv 1) (pe_lst (pa_cons (pe_callB call_isErr (by rfl) B.isi (by decide +kernel) (pa_cons (pv 0) (pa_cons (pe_glob (v := .ref (c 15)) (by rfl) T.x15.at_ rfl) pa_nil))) pa_nil)))))))))), ?_⟩
  have is : ∀ (j : Nat) {σ : L2.St} {M : Hp}, j < 16 → σ[0]? = some (some ve) → Ex H0 M → EvD K none (tCB (rIsErr K) (tCons (tVar 0) (tCons (tC (.ref (c j))) tNil))) σ M (· = .bool (decide (i = j))) := fun j σ M hj hv e =>
    ed_isE (ed_var hv (dp_ex e ke)) (T.errC hi) (.own _) (T.own hi hj)
  refine q_asgF (K := K) (π := none) (M := H0) (ef_l (ds := [.bool (decide (i = 0)), .bool (decide (i = 1)), .bool (decide (i = 2))]) (el_c (is 0 (by decide) rfl (Ex.refl _)) (el_c (is 1 (by decide) rfl (Ex.refl _)) (el_c (is 2 (by decide) rfl (Ex.refl _)) el_nil)))) o0 fun p vs ds M1 H1 e s1 hp kd => ?_
  subst e
  refine q_asgF (K := K) (π := none) (M := M1) (ef_cat (ef_var rfl hp kd) (ef_l (ds := [.bool (decide (i = 3)), .bool (decide (i = 4)), .bool (decide (i = 5))]) (el_c (is 3 (by decide) rfl s1.ex) (el_c (is 4 (by decide) rfl s1.ex) (el_c (is 5 (by decide) rfl s1.ex) el_nil))))) (s1.okk o0) fun p vs ds M2 H2 e s2 hp kd => ?_
  subst e
  have S2 := s1.trans s2 o0
  refine q_asgF (K := K) (π := none) (M := M2) (ef_cat (ef_var rfl hp kd) (ef_l (ds := [.bool (decide (i = 6)), .bool (decide (i = 7)), .bool (decide (i = 8))]) (el_c (is 6 (by decide) rfl S2.ex) (el_c (is 7 (by decide) rfl S2.ex) (el_c (is 8 (by decide) rfl S2.ex) el_nil))))) (S2.okk o0) fun p vs ds M3 H3 e s3 hp kd => ?_
  subst e
  have S3 := S2.trans s3 o0
  refine q_asgF (K := K) (π := none) (M := M3) (ef_cat (ef_var rfl hp kd) (ef_l (ds := [.bool (decide (i = 9)), .bool (decide (i = 10)), .bool (decide (i = 11))]) (el_c (is 9 (by decide) rfl S3.ex) (el_c (is 10 (by decide) rfl S3.ex) (el_c (is 11 (by decide) rfl S3.ex) el_nil))))) (S3.okk o0) fun p vs ds M4 H4 e s4 hp kd => ?_
  subst e
  have S4 := S3.trans s4 o0
  refine q_asgF (K := K) (π := none) (M := M4) (ef_cat (ef_var rfl hp kd) (ef_l (ds := [.bool (decide (i = 12)), .bool (decide (i = 13)), .bool (decide (i = 14))]) (el_c (is 12 (by decide) rfl S4.ex) (el_c (is 13 (by decide) rfl S4.ex) (el_c (is 14 (by decide) rfl S4.ex) el_nil))))) (S4.okk o0) fun p vs ds M5 H5 e s5 hp kd => ?_
  subst e
  have S5 := S4.trans s5 o0
  refine s_ret (K := K) (π := none) (M := M5) (Φ := (· = .list (sortL i))) (EvF.ed (ef_cat (ef_var rfl hp kd) (ef_l (ds := [.bool (decide (i = 15))]) (el_c (is 15 (by decide) rfl S5.ex) el_nil))) fun ds e => by rw [e]; rfl) (S5.okk o0) (k.go o0 S5 fun d e i' fs' xs' he hi' => ?_)
  injection he with he
  have := T.inj i i' hi hi' (errD_inj he)
  subst this
  exact e
theorem scBuilt : FnScope ["e", "found"] ["e"] (defScope sBuilt) := ⟨rfl, rfl, rfl, by decide +kernel, rfl, by decide +kernel, by decide +kernel⟩
theorem builtL_is : ∀ i, i < 16 → ([.bool ((mBof i).contains (.type "ValueError")), .bool ((mBof i).contains (.type "RuntimeError")), .bool ((mBof i).contains (.type "OverflowError"))] ++ [.bool ((mBof i).contains (.type "LookupError")), .bool ((mBof i).contains (.type "TypeError")), .bool ((mBof i).contains (.type "KeyError"))] ++
    [.bool ((mBof i).contains (.type "IndexError")), .bool ((mBof i).contains (.type "NotImplementedError"))] : List PyData) = builtL i
  | 0, _ => by rfl
  | 1, _ => by rfl
  | 2, _ => by rfl
  | 3, _ => by rfl
  | 4, _ => by rfl
  | 5, _ => by rfl
  | 6, _ => by rfl
  | 7, _ => by rfl
  | 8, _ => by rfl
  | 9, _ => by rfl
  | 10, _ => by rfl
  | 11, _ => by rfl
  | 12, _ => by rfl
  | 13, _ => by rfl
  | 14, _ => by rfl
  | 15, _ => by rfl
  | n + 16, h => absurd h (by omega)
theorem c_built {f : Addr} {fd : FuncData} (F : L2.Fun K "_law_built" "_law_built" sBuilt f fd) (m : mg "_law_built" = some (.ref f)) (B : B86 mg) (T : Txt P w K mg base c) : Cal P w K mg base "_law_built" 1 ["e"] (spD K (clPre c) (builtPost c)) := by
  refine ⟨f, fd, F.ok scBuilt (fun vs H Q E h => ?_) (fun cdv A outer s H vs Q E hr h => ?_), m, F.kp, F.binds (ps := ["e"]) fun _ _ _ _ _ _ us hl => match us, hl with | [_], _ => rfl⟩
  · obtain ⟨H0, ds, hd, ⟨i, fs, xs, rfl, _⟩, _⟩ := h
    exact dps_len hd
  obtain ⟨H0, ds, hd, ⟨i, fs, xs, rfl, hi⟩, o0, k⟩ := h
  obtain ⟨ve, rfl, ke⟩ := dps1 hd
  have nd := scBuilt.nd
  refine ⟨_, (pss_cons (ps_set (i := 1) nd rfl (Or.inl rfl) (pe_lst (pa_cons (pe_callB call_isErr (by rfl) B.isi (by decide +kernel) (pa_cons (pv 0) (pa_cons (pe_bltn (v := .ty "ValueError") (by rfl) B.b0 PyProof.Rows.Boot.«ValueError» rfl) pa_nil))) (pa_cons (pe_callB call_isErr (by rfl) B.isi (by decide +kernel) (pa_cons (pv 0) (pa_cons (pe_bltn (v := .ty "RuntimeError") (by rfl) B.b1 PyProof.Rows.Boot.«RuntimeError» rfl) pa_nil))) (pa_cons (pe_callB call_isErr (by rfl) B.isi (by decide +kernel) (pa_cons (pv 0) (pa_cons (pe_bltn (v := .ty "OverflowError") (by rfl) B.b2 PyProof.Rows.Boot.«OverflowError» rfl) pa_nil))) pa_nil)))))
    (pss_cons (ps_set (i := 1) nd rfl (Or.inl rfl) (pe_op op_cat (pv 1) (pe_lst (pa_cons (pe_callB call_isErr (by rfl) B.isi (by decide +kernel) (pa_cons (pv 0) (pa_cons (pe_bltn (v := .ty "LookupError") (by rfl) B.b3 PyProof.Rows.Boot.«LookupError» rfl) pa_nil))) (pa_cons (pe_callB call_isErr (by rfl) B.isi (by decide +kernel) (pa_cons (pv 0) (pa_cons (pe_bltn (v := .ty "TypeError") (by rfl) B.b4 PyProof.Rows.Boot.«TypeError» rfl) pa_nil))) (pa_cons (pe_callB call_isErr (by rfl) B.isi (by decide +kernel) (pa_cons (pv 0) (pa_cons (pe_bltn (v := .ty "KeyError") (by rfl) B.b5 PyProof.Rows.Boot.«KeyError» rfl) pa_nil))) pa_nil))))))
    (pss_one (ps_ret (pe_op op_cat (pv 1) (pe_lst (pa_cons (pe_callB call_isErr (by rfl) B.isi (by decide +kernel) (pa_cons (pv 0) (pa_cons (pe_bltn (v := .ty "IndexError") (by rfl) B.b6 PyProof.Rows.Boot.«IndexError» rfl) pa_nil))) (pa_cons (pe_callB call_isErr (by rfl) B.isi (by decide +kernel) (pa_cons (pv 0) (pa_cons (pe_bltn (v := .ty "NotImplementedError") (by rfl) B.b7 PyProof.Rows.Boot.«NotImplementedError» rfl) pa_nil))) pa_nil)))))))), ?_⟩
  have is : ∀ (n : String) {σ : L2.St} {M : Hp}, PySem.W.kitMeta n = true → σ[0]? = some (some ve) → Ex H0 M → EvD K none (tCB (rIsErr K) (tCons (tVar 0) (tCons (tC (.ty n)) tNil))) σ M (· = .bool ((mBof i).contains (.type n))) := fun n σ M hj hv e =>
    ed_isE (ed_var hv (dp_ex e ke)) (T.errC hi) (.ty _) (T.built hi hj)
  refine q_asgF (K := K) (π := none) (M := H0) (ef_l (ds := [.bool ((mBof i).contains (.type "ValueError")), .bool ((mBof i).contains (.type "RuntimeError")), .bool ((mBof i).contains (.type "OverflowError"))]) (el_c (is "ValueError" (by decide +kernel) rfl (Ex.refl _)) (el_c (is "RuntimeError" (by decide +kernel) rfl (Ex.refl _)) (el_c (is "OverflowError" (by decide +kernel) rfl (Ex.refl _)) el_nil)))) o0 fun p vs ds M1 H1 e s1 hp kd => ?_
  subst e
  refine q_asgF (K := K) (π := none) (M := M1) (ef_cat (ef_var rfl hp kd) (ef_l (ds := [.bool ((mBof i).contains (.type "LookupError")), .bool ((mBof i).contains (.type "TypeError")), .bool ((mBof i).contains (.type "KeyError"))]) (el_c (is "LookupError" (by decide +kernel) rfl s1.ex) (el_c (is "TypeError" (by decide +kernel) rfl s1.ex) (el_c (is "KeyError" (by decide +kernel) rfl s1.ex) el_nil))))) (s1.okk o0) fun p vs ds M2 H2 e s2 hp kd => ?_
  subst e
  have S2 := s1.trans s2 o0
  refine s_ret (K := K) (π := none) (M := M2) (Φ := (· = .list (builtL i))) (EvF.ed (ef_cat (ef_var rfl hp kd) (ef_l (ds := [.bool ((mBof i).contains (.type "IndexError")), .bool ((mBof i).contains (.type "NotImplementedError"))]) (el_c (is "IndexError" (by decide +kernel) rfl S2.ex) (el_c (is "NotImplementedError" (by decide +kernel) rfl S2.ex) el_nil)))) fun ds e => by rw [e, builtL_is i hi]) (S2.okk o0) (k.go o0 S2 fun d e i' fs' xs' he hi' => ?_)
  injection he with he
  have := T.inj i i' hi hi' (errD_inj he)
  subst this
  exact e
/-! ### whether errors are of one class -/
def rtPre (c : Nat → Addr) : List PyData → Prop := fun ds => ∃ (at_ : Nat) (es : List PyData), ds = [.int (at_ : Nat), .int (kindOf at_ : Nat), .list es] ∧ at_ < 16 ∧ (∀ e ∈ es, ∃ fs xs, e = errD (c at_) fs xs) ∧ es.length ≤ 1000
def rtPost : List PyData → DP := fun _ d => d = .bool true
def placesL (n a : Nat) : List PyData := (List.range n).map fun k => .bool (decide ((0 + (k : Nat) : Int) = (a : Nat)))
theorem sort_places : ∀ i, i < 16 → PyData.eqv (.list (sortL i)) (.list (placesL 16 i)) = true := by decide +kernel
theorem built_places : ∀ i, i < 16 → PyData.eqv (.list (builtL i)) (.list (placesL 8 (kindOf i))) = true := by decide +kernel
theorem sort_shaped : ∀ i, i < 16 → SeqAt.shaped (.list (sortL i)) = true := by decide +kernel
theorem built_shaped : ∀ i, i < 16 → SeqAt.shaped (.list (builtL i)) = true := by decide +kernel
theorem places_shaped : ∀ i, i < 16 → SeqAt.shaped (.list (placesL 16 i)) = true := by decide +kernel
theorem places8_shaped : ∀ i, i < 16 → SeqAt.shaped (.list (placesL 8 (kindOf i))) = true := by decide +kernel
theorem scRight : FnScope ["at", "kind", "errors", "e", "place"] ["at", "kind", "errors"] (defScope sRight) := ⟨rfl, rfl, rfl, by decide +kernel, rfl, by decide +kernel, by decide +kernel⟩
theorem c_right {f : Addr} {fd : FuncData} (F : L2.Fun K "_law_right" "_law_right" sRight f fd) (m : mg "_law_right" = some (.ref f)) (B : B86 mg) (T : Txt P w K mg base c) (C_law_sort : Cal P w K mg base "_law_sort" 1 ["e"] (spD K (clPre c) (sortPost c)))
    (C_law_built : Cal P w K mg base "_law_built" 1 ["e"] (spD K (clPre c) (builtPost c))) : Cal P w K mg base "_law_right" 2 ["at", "kind", "errors"] (spD K (rtPre c) rtPost) := by
  refine ⟨f, fd, F.ok scRight (fun vs H Q E h => ?_) (fun cdv A outer s H vs Q E hr h => ?_), m, F.kp, F.binds (ps := ["at", "kind", "errors"]) fun _ _ _ _ _ _ us hl => match us, hl with | [_, _, _], _ => rfl⟩
  · obtain ⟨H0, ds, hd, ⟨a, es, rfl, _⟩, _⟩ := h
    exact dps_len hd
  obtain ⟨H0, ds, hd, ⟨a, es, rfl, ha, hes, hz⟩, o0, k⟩ := h
  obtain ⟨va, vk, ve, rfl, ka, kk, ke⟩ : ∃ va vk ve, vs = [va, vk, ve] ∧ Da K H0 va (.int (a : Nat)) ∧ Da K H0 vk (.int (kindOf a : Nat)) ∧ Da K H0 ve (.list es) := by
    cases hd with
    | cons h1 h2 =>
      obtain ⟨x, y, rfl, h3, h4⟩ := dps2 h2
      exact ⟨_, x, y, rfl, h1, h3, h4⟩
  rw [dp_int ka, dp_int kk]
  have nd := scRight.nd
  refine ⟨_, (pss_cons (ps_for PassesOwn.never rfl (pi_list (pv 2)) (pg_name (i := 3) nd rfl (Or.inl rfl)) (pss_cons (ps_if (pt_cmpR (op_neD hr.units) (pe_c C_law_sort (hr.mono (by decide)) rfl (pa_cons (pv 3) pa_nil)) (pe_lc (own := [("place", 4)]) (g := (gName 4)) (tt := tYes) (te := (tOp rEq (tVar 4) (tVar 0))) rfl nd (pi_range1 rfl B.range (pa_cons pe_int pa_nil)) (blkOk_by (own := [("place", 4)]) (N := ["at", "kind", "errors", "e", "place"]) (sc := defScope sRight) (by decide +kernel)) (fun _ _ _ _ _ => pg_name (i := 4) nd rfl (Or.inl rfl)) (fun _ _ _ _ _ => pts_nil) (fun _ _ _ _ _ => (pe_cmpR op_eq (pv 4) (pv 0) (nomark _)))) (nomark _)) (pss_one (ps_ret pe_bl)) pss_nil)
    (pss_one (ps_if (pt_cmpR (op_neD hr.units) (pe_c C_law_built (hr.mono (by decide)) rfl (pa_cons (pv 3) pa_nil)) (pe_lc (own := [("place", 4)]) (g := (gName 4)) (tt := tYes) (te := (tOp rEq (tVar 4) (tVar 1))) rfl nd (pi_range1 rfl B.range (pa_cons pe_int pa_nil)) (blkOk_by (own := [("place", 4)]) (N := ["at", "kind", "errors", "e", "place"]) (sc := defScope sRight) (by decide +kernel)) (fun _ _ _ _ _ => pg_name (i := 4) nd rfl (Or.inl rfl)) (fun _ _ _ _ _ => pts_nil) (fun _ _ _ _ _ => (pe_cmpR op_eq (pv 4) (pv 1) (nomark _)))) (nomark _)) (pss_one (ps_ret pe_bl)) pss_nil))))
    (pss_one (ps_ret pe_bl))), ?_⟩
  have places : ∀ (n j b : Nat) {σ : L2.St} {M : Hp}, n ≤ 100 → σ.length = 5 → j < 2 → σ[j]? = some (some (.int (b : Nat))) → EvD K none (tLc (iRng1 (tCons (tC (.int (n : Nat))) tNil)) (gName 4) tYes (tOp rEq (tVar 4) (tVar j)) [4]) σ M (· = .list (placesL n b)) := fun n j b σ M hn hl hj hv => by
    refine EvF.ed (Φl := (· = placesL n b)) (ef_lc (Φx := (· = upto 0 n)) (ei_range1 (el_c ed_i el_nil) fun ds e => ⟨_, e, by omega, by omega, by rw [Int.toNat_natCast]⟩) tg1 (fun _ _ _ _ => trivial) (fun xs e => by rw [e, upto_len]; omega) (fun d M σ' => ?_) (fun xs i acc => acc = placesL i b) (fun xs _ => rfl) ?_ (fun xs acc e e2 => by rw [e2, e, upto_len])) fun ds e => by rw [e]
    · rintro ⟨x, _, rfl⟩
      simp [wipe, List.set_set]
    · rintro xs i d acc M' σ' rfl ed _ ⟨x, kx, rfl⟩ rfl
      obtain ⟨hi, rfl⟩ := upto_get ed
      refine ⟨(· = true), eb_yes, fun _ => ?_, fun z => by cases z⟩
      refine (ed_op' (ed_var (i := 4) (d := .int (0 + (i : Nat))) ?_ kx) (ed_var (i := j) (d := .int (b : Nat)) ?_ (.int _)) od_eqI).imp fun d e => ?_
      · rw [List.getElem?_set_self (by rw [wipe_length, hl]; decide)]
      · have h4 : (4 : Nat) ≠ j := by omega
        show ((σ.set 4 none).set 4 (some x))[j]? = _
        rw [List.getElem?_set_ne h4, List.getElem?_set_ne h4, hv]
      · rw [e]
        unfold placesL
        rw [List.range_succ, List.map_append]
        rfl
  refine q_for (Φx := (· = es)) (ei_lst (ed_var rfl ke)) o0 tg1 (fun _ _ _ _ => trivial)
    (fun xs i σ' M' H' => ∃ (lv : Option V), σ' = [some (.int (a : Nat)), some (.int (kindOf a : Nat)), some ve, lv, none] ∧ Stp K none H0 H M' H') ?_ ?_ ?_ ?_
  · rintro xs i σ' M' H' ⟨lv, rfl, s1⟩
    exact s1.okk o0
  · rintro xs N H2 rfl s1
    exact ⟨none, rfl, s1⟩
  · rintro xs i d σ' M' H' M2 H2 σ2 rfl e1 ⟨lv, rfl, s1⟩ s2 ed ⟨x, kx, rfl⟩
    obtain ⟨fs, ys, rfl⟩ := hes d (List.mem_of_getElem? ed)
    have S2 := s1.trans s2 o0
    have pre : ∀ ds : List PyData, ds = [errD (c a) fs ys] → clPre c ds := fun ds e => ⟨a, fs, ys, e, ha⟩
    refine q_when (K := K) (π := none) (M := M2) (eb_t (ed_op' (ed_call (Φl := (· = [errD (c a) fs ys])) (Φ := (· = .list (sortL a))) (el_c (ed_var rfl kx) el_nil) pre fun ds d e hp => hp a fs ys e ha) (places 16 0 a (by decide) rfl (by decide) rfl) (od_neD (sort_shaped a ha) (places_shaped a ha)))) (S2.okk o0) (fun z => ?_) fun _ M3 H3 s3 => ?_
    · rw [sort_places a ha] at z
      cases z
    have S3 := S2.trans s3 o0
    refine s_if (K := K) (π := none) (M := M3) (eb_t (ed_op' (ed_call (Φl := (· = [errD (c a) fs ys])) (Φ := (· = .list (builtL a))) (el_c (ed_var rfl (dp_ex s3.ex kx)) el_nil) pre fun ds d e hp => hp a fs ys e ha) (places 8 1 (kindOf a) (by decide) rfl (by decide) rfl) (od_neD (built_shaped a ha) (places8_shaped a ha)))) (S3.okk o0) (fun z => ?_) fun _ M4 H4 s4 => ?_
    · rw [built_places a ha] at z
      cases z
    exact ⟨M4, s2.ex.trans (s3.ex.trans s4.ex), _, rfl, S3.trans s4 o0⟩
  · rintro xs σ' M' H' rfl e1 ⟨lv, rfl, s1⟩
    exact s_ret (K := K) (π := none) (M := M') ed_bl (s1.okk o0) (k.go o0 s1 fun d e => e)
end
end K86

set_option maxRecDepth 100000
set_option maxHeartbeats 4000000
namespace K86
open PySem PySem.Spec PyProof.Rows L2 Gd Dt Dl Ee
open Evl (Ex Ex.refl Ex.trans Ex.new ex_l ex_t sq_of st_of fresh_back)
abbrev sPlain : Stmt := top 26
abbrev sRefused : Stmt := top 27
section
variable {X : Cx} {k : Nat} {x : Str} {p pos : Pos} {sp : Sp}
theorem pe_c0 (c : Cal X.prog X.w X.K X.mg X.base x k [] sp) (hr : Room k X.A) (hg : Gl X x) (hdb : (x == ("__debug__" : Str)) = false := by decide) : PE X (.Call (.Name x p) [] [] pos) (tCall sp [] E0 tNil) := by
  obtain ⟨f, fd, F, hm, hk, hb⟩ := c.ex
  exact pe_call0 F hr hg hm hk hb .nil pass0 hdb
end
/-! ### values whose repr is short -/
def neat (d : PyData) : Bool := d.showable && (okD d && (decide (d.depth ≤ 10) && decide (d.shown.length ≤ 1000)))
structure Neat (d : PyData) : Prop where
  sho : d.showable = true
  ok : okD d = true
  dep : d.depth ≤ 10
  len : d.shown.length ≤ 1000
theorem neat_ok {d : PyData} (h : neat d = true) : Neat d := by
  unfold neat at h
  simp only [Bool.and_eq_true, decide_eq_true_eq] at h
  exact ⟨h.1, h.2.1, h.2.2.1, h.2.2.2⟩
theorem neat_int {z : Int} (h0 : 0 ≤ z) (h1 : z < 10 ^ 60) : Neat (.int z) := by
  have hn : z.natAbs < 10 ^ 60 := by
    have e : (10 : Int) ^ 60 = ((10 ^ 60 : Nat) : Int) := by norm_cast
    rw [e] at h1
    omega
  refine ⟨?_, rfl, Nat.zero_le _, ?_⟩
  · simp only [PyData.showable]
    refine decide_eq_true ?_
    by_cases e : z.natAbs = 0
    · rw [e]
      decide
    · rw [Nat.log2_lt e]
      exact Nat.lt_trans hn (by decide +kernel)
  · have q := int_text_length_le10 (k := 60) (by decide) hn
    show (Str.ofString (toString z)).length ≤ 1000
    rw [PySem.ofString_length]
    omega
structure NeatL (ds : List PyData) : Prop where
  sho : (PyData.list ds).showable = true
  ok : okD (.list ds) = true
  dep : (PyData.list ds).depth ≤ 40
  len : (PyData.list ds).shown.length ≤ sizeLine
theorem neat_all : ∀ {ds : List PyData}, (∀ d ∈ ds, Neat d) → PyData.showableAll ds = true ∧ okDs ds = true ∧ PyData.depthAll ds ≤ 10 ∧ ((PyData.shownAll ds).map (·.length)).sum ≤ 1000 * ds.length ∧ (PyData.shownAll ds).length = ds.length
  | [], _ => ⟨rfl, rfl, Nat.zero_le _, Nat.zero_le _, rfl⟩
  | d :: ds, h => by
    obtain ⟨a1, a2, a3, a4, a5⟩ := neat_all (ds := ds) fun x hx => h x (List.mem_cons_of_mem _ hx)
    have hd := h d List.mem_cons_self
    refine ⟨?_, ?_, ?_, ?_, ?_⟩
    · simp only [PyData.showableAll, hd.sho, a1, Bool.and_self]
    · simp only [okDs, hd.ok, a2, Bool.and_self]
    · have := hd.dep
      simp only [PyData.depthAll]
      omega
    · have := hd.len
      simp only [PyData.shownAll, List.map_cons, List.sum_cons, List.length_cons]
      omega
    · simp only [PyData.shownAll, List.length_cons, a5]
theorem neat_l {ds : List PyData} (h : ∀ d ∈ ds, Neat d) (hz : ds.length ≤ 10) : NeatL ds := by
  obtain ⟨a1, a2, a3, a4, a5⟩ := neat_all h
  refine ⟨by simpa only [PyData.showable] using a1, by simpa only [okD] using a2, ?_, ?_⟩
  · simp only [PyData.depth]
    omega
  · have q := listText_len_le (PyData.shownAll ds)
    have e : (PyData.list ds).shown = listText (PyData.shownAll ds) := by simp only [PyData.shown]
    rw [e]
    have : (11000 : Nat) ≤ sizeLine := by decide
    omega
theorem neat2 {a b : PyData} (ha : Neat a) (hb : Neat b) : NeatL [a, b] := neat_l (fun d hd => by
  rcases List.mem_cons.mp hd with rfl | hd
  · exact ha
  · rw [List.mem_singleton.mp hd]
    exact hb) (Nat.le_of_ble_eq_true rfl)
theorem neat4 {a b c d : PyData} (ha : Neat a) (hb : Neat b) (hc : Neat c) (hd : Neat d) : NeatL [a, b, c, d] := neat_l (fun x hx => by
  simp only [List.mem_cons, List.not_mem_nil, or_false] at hx
  rcases hx with rfl | rfl | rfl | rfl
  · exact ha
  · exact hb
  · exact hc
  · exact hd) (Nat.le_of_ble_eq_true rfl)
section
variable {P : Program} {w : World} {K : PySem.W.Frag} {mg : Str → Option Value} {base : Heap} {c : Nat → Addr} {π : Option Pn} {σ : L2.St} {H0 M : Hp} {te : TE} {tl : TA} {ds : List PyData}
theorem ed_show (h : EvL K π tl σ H0 (· = ds)) (n : NeatL ds) (hz : ds.length ≤ 100000 := by first | exact Nat.le_of_ble_eq_true rfl | (simp only [List.length_cons, List.length_nil]; decide)) : EvD K π (tCB (rReprE K) (tCons (tLst tl) tNil)) σ H0 (· = .str (PyData.list ds).shown) :=
  ed_cb' (el_c (ed_l h hz) el_nil) (cb_reprE n.sho n.ok n.dep n.len)
theorem ed_right {i : Nat} {n kd : Int} (hi : i < 16) (hn : n = ((i : Nat) : Int)) (hk : kd = ((kindOf i : Nat) : Int)) (h : EvD K π te σ H0 (· = .list ds)) (hes : ∀ e ∈ ds, ∃ fs xs, e = errD (c i) fs xs) (hz : ds.length ≤ 1000) :
    EvD K π (tCall (spD K (rtPre c) rtPost) [] E0 (tCons (tC (.int n)) (tCons (tC (.int kd)) (tCons te tNil)))) σ H0 (· = .bool true) := by
  subst hn
  subst hk
  exact ed_call (Φl := (· = [.int (i : Nat), .int (kindOf i : Nat), .list ds])) (el_c ed_i (el_c ed_i (el_c h el_nil))) (fun ds' e => ⟨i, ds, e, hi, hes, hz⟩) fun ds' d _ hp => hp
def nonePre : List PyData → Prop := fun ds => ds = []
theorem scPlain : FnScope [] [] (defScope sPlain) := ⟨rfl, rfl, rfl, by decide +kernel, rfl, by decide +kernel, by decide +kernel⟩
theorem c_plain {f : Addr} {fd : FuncData} (F : L2.Fun K "_law_plain_right" "_law_plain_right" sPlain f fd) (m : mg "_law_plain_right" = some (.ref f)) (T : Txt P w K mg base c) (C_law_right : Cal P w K mg base "_law_right" 2 ["at", "kind", "errors"] (spD K (rtPre c) rtPost)) :
    Cal P w K mg base "_law_plain_right" 3 [] (spD K nonePre rtPost) := by
  refine ⟨f, fd, F.ok scPlain (fun vs H Q E h => ?_) (fun cdv A outer s H vs Q E hr h => ?_), m, F.kp, F.binds (ps := []) fun _ _ _ _ _ _ us hl => match us, hl with | [], _ => rfl⟩
  · obtain ⟨H0, ds, hd, rfl, _⟩ := h
    exact dps_len hd
  obtain ⟨H0, ds, hd, rfl, o0, k⟩ := h
  cases hd
  have nd := scPlain.nd
  refine ⟨_, (pss_cons (ps_if (PW.pt (pw_or (pt_not (pt_val (pe_c C_law_right (hr.mono (by decide)) rfl (pa_cons pe_int (pa_cons pe_int (pa_cons (pe_lst (pa_cons (pe_E0 T.x1 (hr.mono (by decide)) rfl) pa_nil)) pa_nil)))))) (pw_or1 (pt_not (pt_val (pe_c C_law_right (hr.mono (by decide)) rfl (pa_cons pe_int (pa_cons pe_int (pa_cons (pe_lst (pa_cons (pe_E0 T.x6 (hr.mono (by decide)) rfl) pa_nil)) pa_nil))))))))) (pss_one (ps_ret pe_bl)) pss_nil)
    (pss_cons (ps_if (PW.pt (pw_or (pt_not (pt_val (pe_c C_law_right (hr.mono (by decide)) rfl (pa_cons pe_int (pa_cons pe_int (pa_cons (pe_lst (pa_cons (pe_E0 T.x7 (hr.mono (by decide)) rfl) pa_nil)) pa_nil)))))) (pw_or1 (pt_not (pt_val (pe_c C_law_right (hr.mono (by decide)) rfl (pa_cons pe_int (pa_cons pe_int (pa_cons (pe_lst (pa_cons (pe_E0 T.x12 (hr.mono (by decide)) rfl) pa_nil)) pa_nil))))))))) (pss_one (ps_ret pe_bl)) pss_nil)
    (pss_one (ps_ret (pe_c C_law_right (hr.mono (by decide)) rfl (pa_cons pe_int (pa_cons pe_int (pa_cons (pe_lst (pa_cons (pe_E0 T.x10 (hr.mono (by decide)) rfl) pa_nil)) pa_nil)))))))), ?_⟩
  have one : ∀ (i : Nat) (n kd : Int) {M : Hp} {σ : L2.St}, i < 16 → n = ((i : Nat) : Int) → kd = ((kindOf i : Nat) : Int) → EvD K none (tCall (spD K (rtPre c) rtPost) [] E0 (tCons (tC (.int n)) (tCons (tC (.int kd)) (tCons (tLst (tCons (tErr (c i) 0 0 sp0 (fun vs _ => vs) tNil tNil) tNil)) tNil)))) σ M (· = .bool true) := fun i n kd M σ hi hn hk =>
    ed_right hi hn hk (ed_l (el_c ed_E0 el_nil) (Nat.le_of_ble_eq_true rfl)) (fun e he => ⟨[], [], List.mem_singleton.mp he⟩) (Nat.le_of_ble_eq_true rfl)
  refine q_when (K := K) (π := none) (M := H0) (Φb := (· = false)) ((eb_or' (a := false) (b := false) ((eb_not' (eb_b (one 1 1 0 (by decide) rfl rfl))).imp fun b e => e) fun _ => (eb_not' (eb_b (one 6 6 1 (by decide) rfl rfl))).imp fun b e => e).imp fun b e => e) o0 (fun z => by cases z) fun _ M2 H2 s2 => ?_
  refine q_when (K := K) (π := none) (M := M2) (Φb := (· = false)) ((eb_or' (a := false) (b := false) ((eb_not' (eb_b (one 7 7 1 (by decide) rfl rfl))).imp fun b e => e) fun _ => (eb_not' (eb_b (one 12 12 1 (by decide) rfl rfl))).imp fun b e => e).imp fun b e => e) (s2.okk o0) (fun z => by cases z) fun _ M3 H3 s3 => ?_
  have S3 := s2.trans s3 o0
  exact s_ret (K := K) (π := none) (M := M3) (one 10 10 1 (by decide) rfl rfl) (S3.okk o0) (k.go o0 S3 fun d e => e)
def cntPre : List PyData → Prop := fun ds => ∃ z : Int, ds = [.int z] ∧ 0 ≤ z ∧ z < 10 ^ 60
theorem scRefused : FnScope ["count", "a", "b", "c", "d"] ["count"] (defScope sRefused) := ⟨rfl, rfl, rfl, by decide +kernel, rfl, by decide +kernel, by decide +kernel⟩
theorem c_refused {f : Addr} {fd : FuncData} (F : L2.Fun K "_law_refused_right" "_law_refused_right" sRefused f fd) (m : mg "_law_refused_right" = some (.ref f)) (B : B86 mg) (T : Txt P w K mg base c) (sy : Sy base) (C_law_right : Cal P w K mg base "_law_right" 2 ["at", "kind", "errors"] (spD K (rtPre c) rtPost)) :
    CalG P w K mg base "_law_refused_right" 3 ["count"] (spD K cntPre rtPost) := by
  refine ⟨f, fd, Gd.ok F scRefused (fun vs H Q E h => ?_) (fun cdv A outer s H vs Q E hg hr h => ?_), m, F.kp, F.binds (ps := ["count"]) fun _ _ _ _ _ _ us hl => match us, hl with | [_], _ => rfl⟩
  · obtain ⟨H0, ds, hd, ⟨z, rfl, _⟩, _⟩ := h
    exact dps_len hd
  obtain ⟨H0, ds, hd, ⟨z, rfl, hz0, hz1⟩, o0, k⟩ := h
  obtain ⟨v, rfl, kv⟩ := dps1 hd
  rw [dp_int kv]
  have nd := scRefused.nd
  have hfree : Free (A.deeper (envOfC "_law_refused_right" (defScope sRefused) s.heap.objs.size f cdv)) := hg
  refine ⟨_, (pss_cons (ps_par (i := 1) (j := 2) rfl nd rfl rfl (by decide) rfl rfl (pa_cons (pe_E2 T.x9 (hr.mono (by decide)) rfl (pa_cons (pv 0) (pa_cons pe_str pa_nil))) (pa_cons (pe_E2k T.x9 (hr.mono (by decide)) rfl pe_non (pe_un un_neg pe_int)) pa_nil)) (by rfl))
    (pss_cons (ps_par (i := 3) (j := 4) rfl nd rfl rfl (by decide) rfl rfl (pa_cons (pe_E2 T.x9 (hr.mono (by decide)) rfl (pa_cons (pe_un un_neg pe_int) (pa_cons pe_str pa_nil))) (pa_cons (pe_E2 T.x9 (hr.mono (by decide)) rfl (pa_cons pe_int (pa_cons pe_non pa_nil))) pa_nil)) (by rfl))
    (pss_cons (ps_if (pt_cmpR op_ne (pe_callB (call_reprE hfree hr sy) (by rfl) B.repr (by decide +kernel) (pa_cons (pe_lst (pa_cons (pe_fld (pv 1)) (pa_cons (pe_fld (pv 1)) (pa_cons (pe_fld (pv 2)) (pa_cons (pe_fld (pv 2)) pa_nil))))) pa_nil)) (pe_callB (call_reprE hfree hr sy) (by rfl) B.repr (by decide +kernel) (pa_cons (pe_lst (pa_cons (pv 0) (pa_cons pe_str (pa_cons (pe_un un_neg pe_int) (pa_cons pe_non pa_nil))))) pa_nil)) (nomark _)) (pss_one (ps_ret pe_bl)) pss_nil)
    (pss_cons (ps_if (pt_not (pt_val (pe_c C_law_right (hr.mono (by decide)) rfl (pa_cons pe_int (pa_cons pe_int (pa_cons (pe_lst (pa_cons (pv 1) (pa_cons (pv 2) (pa_cons (pv 3) (pa_cons (pv 4) pa_nil))))) pa_nil)))))) (pss_one (ps_ret pe_bl)) pss_nil)
    (pss_one (ps_ret (pe_cmpR op_eq (pe_callB (call_reprE hfree hr sy) (by rfl) B.repr (by decide +kernel) (pa_cons (pe_lst (pa_cons (pe_fld (pv 3)) (pa_cons (pe_fld (pv 3)) (pa_cons (pe_fld (pv 4)) (pa_cons (pe_fld (pv 4)) pa_nil))))) pa_nil)) (pe_callB (call_reprE hfree hr sy) (by rfl) B.repr (by decide +kernel) (pa_cons (pe_lst (pa_cons (pe_un un_neg pe_int) (pa_cons pe_str (pa_cons pe_int (pa_cons pe_non pa_nil))))) pa_nil)) (nomark _)))))))), ?_⟩
  have T9 := T.x9
  have n1 := T9.no "index" (by simp)
  have n2 := T9.no "reason" (by simp)
  have rd : ∀ {j : Nat} {x : V} {r d : PyData} {σ : L2.St} {M : Hp}, σ[j]? = some (some x) → Da K M x (errD (c 9) ["reason", "index"] [r, d]) → EvD K none (tFld K "index" (tVar j)) σ M (· = d) ∧ EvD K none (tFld K "reason" (tVar j)) σ M (· = r) := fun hj kx =>
    ⟨ed_fld (ed_var hj kx) T9.T n1 (by rfl), ed_fld (ed_var hj kx) T9.T n2 (by rfl)⟩
  have nz := neat_int hz0 hz1
  have s1 : Neat (.str "CannotDo") := neat_ok (by decide +kernel)
  have s2 : Neat (.int (-1)) := neat_ok (by decide +kernel)
  have s3 : Neat .none := neat_ok (by decide +kernel)
  have s4 : Neat (.str "CannotWear") := neat_ok (by decide +kernel)
  have s5 : Neat (.int 3) := neat_ok (by decide +kernel)
  refine q_par (K := K) (π := none) (M := H0) (Φ2 := fun x y => x = errD (c 9) ["reason", "index"] [.str "CannotDo", .int z] ∧ y = errD (c 9) ["reason", "index"] [.none, .int (-1)])
    ((el_c (ed_E2 (el_c (ed_var rfl (.int _)) (el_c ed_s el_nil))) (el_c (ed_E2k (el_c ed_n (el_c (ed_neg ed_i) el_nil))) el_nil)).imp fun ds e => ⟨_, _, e, rfl, rfl⟩) o0 fun va vb x y M1 H1 e t1 ka kb => ?_
  obtain ⟨rfl, rfl⟩ := e
  refine q_par (K := K) (π := none) (M := M1) (Φ2 := fun x y => x = errD (c 9) ["reason", "index"] [.str "CannotWear", .int (-1)] ∧ y = errD (c 9) ["reason", "index"] [.none, .int 3])
    ((el_c (ed_E2 (el_c (ed_neg ed_i) (el_c ed_s el_nil))) (el_c (ed_E2 (el_c ed_i (el_c ed_n el_nil))) el_nil)).imp fun ds e => ⟨_, _, e, rfl, rfl⟩) (t1.okk o0) fun vc vd x y M2 H2 e t2 kc kd => ?_
  obtain ⟨rfl, rfl⟩ := e
  have T2 := t1.trans t2 o0
  have ka2 := dp_ex t2.ex ka
  have kb2 := dp_ex t2.ex kb
  refine q_when (K := K) (π := none) (M := M2) (Φb := (· = false)) ((eb_t (ed_op' (ed_show (el_c (rd rfl ka2).1 (el_c (rd rfl ka2).2 (el_c (rd rfl kb2).1 (el_c (rd rfl kb2).2 el_nil)))) (neat4 nz s1 s2 s3)) (ed_show (el_c (ed_var rfl (.int _)) (el_c ed_s (el_c (ed_neg ed_i) (el_c ed_n el_nil)))) (neat4 nz s1 s2 s3)) od_neS)).imp fun b e => by rw [e, decide_eq_true rfl]; rfl) (T2.okk o0) (fun q => by cases q) fun _ M3 H3 t3 => ?_
  have T3 := T2.trans t3 o0
  refine q_when (K := K) (π := none) (M := M3) (Φb := (· = false)) ((eb_not' (eb_b (ed_right (i := 9) (by decide) rfl rfl (ed_l (el_c (ed_var rfl (dp_ex t3.ex ka2)) (el_c (ed_var rfl (dp_ex t3.ex kb2)) (el_c (ed_var rfl (dp_ex t3.ex kc)) (el_c (ed_var rfl (dp_ex t3.ex kd)) el_nil)))) (Nat.le_of_ble_eq_true rfl)) (fun e he => ?_) (Nat.le_of_ble_eq_true rfl)))).imp fun b e => e) (T3.okk o0) (fun q => by cases q) fun _ M4 H4 t4 => ?_
  · simp only [List.mem_cons, List.not_mem_nil, or_false] at he
    rcases he with rfl | rfl | rfl | rfl
    · exact ⟨_, _, rfl⟩
    · exact ⟨_, _, rfl⟩
    · exact ⟨_, _, rfl⟩
    · exact ⟨_, _, rfl⟩
  have T4 := T3.trans t4 o0
  have kc4 := dp_ex (t3.ex.trans t4.ex) kc
  have kd4 := dp_ex (t3.ex.trans t4.ex) kd
  exact s_ret (K := K) (π := none) (M := M4) (Φ := (· = .bool true)) ((ed_op' (ed_show (el_c (rd rfl kc4).1 (el_c (rd rfl kc4).2 (el_c (rd rfl kd4).1 (el_c (rd rfl kd4).2 el_nil)))) (neat4 s2 s4 s5 s3)) (ed_show (el_c (ed_neg ed_i) (el_c ed_s (el_c ed_i (el_c ed_n el_nil)))) (neat4 s2 s4 s5 s3)) od_eqS).imp fun d e => by rw [e, decide_eq_true rfl]) (T4.okk o0) (k.go o0 T4 fun d e => e)
end
end K86

set_option maxRecDepth 100000
set_option maxHeartbeats 4000000
namespace K86
open PySem PySem.Spec PyProof.Rows L2 Gd Dt Dl Ee
open Evl (Ex Ex.refl Ex.trans Ex.new ex_l ex_t sq_of st_of fresh_back)
abbrev sLaw : Stmt := top 28
section
variable {P : Program} {w : World} {K : PySem.W.Frag} {mg : Str → Option Value} {base : Heap} {c : Nat → Addr} {π : Option Pn} {M H : Hp} {D : Ends} {tz : TS} {ta tb : TE} {da db : PyData} {f : Str} {i : Nat} {n kd : Int} {x0 x1 x2 x3 x4 x5 x6 : Option V}
/-! ### one pair of errors of a class -/
theorem ed_pair {x7 : Option V} {va vb : V} (er : ErrC K (c i)) (hi : i < 16) (hn : n = ((i : Nat) : Int)) (hk : kd = ((kindOf i : Nat) : Int)) (no : PySem.W.findIn K (.ref (c i)) f = some none) (ka : Da K M va (errD (c i) [f] [da])) (kb : Da K M vb (errD (c i) [f] [db]))
    (ha : EvD K π ta [x0, x1, x2, x3, x4, some va, some vb, x7] M (· = da)) (hb : EvD K π tb [x0, x1, x2, x3, x4, some va, some vb, x7] M (· = db)) (na : Neat da) (nb : Neat db) :
    EvD K π (tAndV (tCall (spD K (rtPre c) rtPost) [] E0 (tCons (tC (.int n)) (tCons (tC (.int kd)) (tCons (tLst (tCons (tVar 5) (tCons (tVar 6) tNil))) tNil)))) (tOp rEq (tCB (rReprE K) (tCons (tLst (tCons (tFld K f (tVar 5)) (tCons (tFld K f (tVar 6)) tNil))) tNil)) (tCB (rReprE K) (tCons (tLst (tCons ta (tCons tb tNil))) tNil))))
      [x0, x1, x2, x3, x4, some va, some vb, x7] M (· = .bool true) := by
  have fl : ∀ d : PyData, ([f].zip [d]).lookup f = some d := fun d => by simp [List.lookup]
  refine (ed_andV (a := true) (b := true) (ed_right hi hn hk (ed_l (el_c (ed_var rfl ka) (el_c (ed_var rfl kb) el_nil)) (Nat.le_of_ble_eq_true rfl)) (fun e he => ?_) (Nat.le_of_ble_eq_true rfl)) fun _ => ?_).imp fun d e => e
  · simp only [List.mem_cons, List.not_mem_nil, or_false] at he
    rcases he with rfl | rfl
    · exact ⟨_, _, rfl⟩
    · exact ⟨_, _, rfl⟩
  · exact (ed_op' (ed_show (el_c (ed_fld (ed_var rfl ka) er no (fl da)) (el_c (ed_fld (ed_var rfl kb) er no (fl db)) el_nil)) (neat2 na nb)) (ed_show (el_c ha (el_c hb el_nil)) (neat2 na nb)) od_eqS).imp fun d e => by rw [e, decide_eq_true rfl]
theorem q_made {x7 : Option V} (hb : ∀ M', Ex M M' → EvD K π tb [x0, x1, x2, x3, x4, x5, x6, x7] M' (· = db)) (ha : EvD K π ta [x0, x1, x2, x3, x4, x5, x6, x7] M (· = da)) (o : Okk K π M H)
    (k : ∀ va vb M' H', Stp K π M H M' H' → Da K M' va (errD (c i) [f] [da]) → Da K M' vb (errD (c i) [f] [db]) → tz D [x0, x1, x2, x3, x4, some va, some vb, x7] H') :
    tSeq (tPar 5 6 (tCons (tErr (c i) 1 0 (sp1 (c i) f) (fun vs _ => vs) (tCons ta tNil) tNil) (tCons (tErr (c i) 0 1 (sp1 (c i) f) (fun vs zs => vs ++ zs) tNil (tCons tb tNil)) tNil))) tz D [x0, x1, x2, x3, x4, x5, x6, x7] H := by
  refine q_par (K := K) (π := π) (M := M) (Φ2 := fun x y => x = errD (c i) [f] [da] ∧ y = errD (c i) [f] [db]) ((el_c (ed_E1 (el_c ha el_nil)) (el_c (ed_E1k (hb M (Ex.refl _))) el_nil)).imp fun ds e => ⟨_, _, e, rfl, rfl⟩) o fun va vb x y M1 H1 e t1 ka kb => ?_
  obtain ⟨rfl, rfl⟩ := e
  exact k va vb M1 H1 t1 ka kb
theorem q_block (er : ErrC K (c i)) (hi : i < 16) (hn : n = ((i : Nat) : Int)) (hk : kd = ((kindOf i : Nat) : Int)) (no : PySem.W.findIn K (.ref (c i)) f = some none)
    (ha : ∀ y5 y6 y7 M', Ex M M' → EvD K π ta [x0, x1, x2, x3, x4, y5, y6, y7] M' (· = da)) (hb : ∀ y5 y6 y7 M', Ex M M' → EvD K π tb [x0, x1, x2, x3, x4, y5, y6, y7] M' (· = db)) (na : Neat da) (nb : Neat db) (o : Okk K π M H)
    (k : ∀ y5 y6 M' H', Stp K π M H M' H' → tz D [x0, x1, x2, x3, x4, y5, y6, some (.bl true)] H') :
    tSeq (tPar 5 6 (tCons (tErr (c i) 1 0 (sp1 (c i) f) (fun vs _ => vs) (tCons ta tNil) tNil) (tCons (tErr (c i) 0 1 (sp1 (c i) f) (fun vs zs => vs ++ zs) tNil (tCons tb tNil)) tNil)))
      (tSeq (tAsg (tAndV (tVar 7) (tAndV (tCall (spD K (rtPre c) rtPost) [] E0 (tCons (tC (.int n)) (tCons (tC (.int kd)) (tCons (tLst (tCons (tVar 5) (tCons (tVar 6) tNil))) tNil)))) (tOp rEq (tCB (rReprE K) (tCons (tLst (tCons (tFld K f (tVar 5)) (tCons (tFld K f (tVar 6)) tNil))) tNil)) (tCB (rReprE K) (tCons (tLst (tCons ta (tCons tb tNil))) tNil))))) (gName 7)) tz)
      D [x0, x1, x2, x3, x4, x5, x6, some (.bl true)] H := by
  refine q_made (da := da) (db := db) (fun M' e => hb _ _ _ M' e) (ha _ _ _ M (Ex.refl _)) o fun va vb M1 H1 t1 ka kb => ?_
  refine q_asg (K := K) (π := π) (M := M1) (Φ := (· = .bool true)) ((ed_andV (a := true) (b := true) (ed_var rfl (.bl true)) fun _ => ed_pair er hi hn hk no ka kb (ha _ _ _ _ t1.ex) (hb _ _ _ _ t1.ex) na nb).imp fun d e => e) (t1.okk o) fun v d M2 H2 e t2 kv => ?_
  subst e
  rw [dp_bl kv]
  exact k _ _ M2 H2 (t1.trans t2 o)
/-! ### the law -/
def spLaw (K : PySem.W.Frag) : Sp := fun vs H Q _ => ∃ (a : Addr) (ns : List Int), vs = [.ref a] ∧ SqL K H a (ns.map V.int) ∧ ns.length ≤ 63 ∧ ∀ H', Q (.bl true) H'
def pieceL : List PyData := [.none, .str "lanes", .str "letters", .str "machines", .tuple [.str "places", .int 2], .tuple [.str "steps", .int 0]]
theorem odd_neat : (oddA ++ oddB).all neat = true := by decide +kernel
theorem piece_neat : pieceL.all neat = true := by decide +kernel
theorem scLaw : FnScope ["script", "pen", "thing", "count", "piece", "a", "b", "good"] ["script"] (defScope sLaw) := ⟨rfl, rfl, rfl, by decide +kernel, rfl, by decide +kernel, by decide +kernel⟩
theorem ok_law {fn : Addr} {fd : FuncData} (F : L2.Fun K "law" "law" sLaw fn fd) (B : B86 mg) (T : Txt P w K mg base c) (sy : Sy base) (C_law_pen : Cal P w K mg base "_law_pen" 1 ["script"] (spPen K)) (C_law_draw : Cal P w K mg base "_law_draw" 2 ["pen", "bound"] (spP K drawPre drawPost))
    (C_law_one_of : Cal P w K mg base "_law_one_of" 3 ["pen", "some"] (spP K onePre onePost)) (C_law_odd : Cal P w K mg base "_law_odd" 4 ["pen"] (spP K oddPre oddPost)) (C_law_right : Cal P w K mg base "_law_right" 2 ["at", "kind", "errors"] (spD K (rtPre c) rtPost))
    (C_law_plain_right : Cal P w K mg base "_law_plain_right" 3 [] (spD K nonePre rtPost)) (C_law_refused_right : CalG P w K mg base "_law_refused_right" 3 ["count"] (spD K cntPre rtPost)) : Fn P w K mg base 5 fn fd ["script"] (spLaw K) := by
  refine Gd.ok F scLaw (fun vs H Q E h => ?_) (fun cdv A outer s H vs Q E hg hr h => ?_)
  · obtain ⟨a, ns, rfl, _⟩ := h
    rfl
  obtain ⟨a, ns, rfl, hS, hn, q⟩ := h
  have nd := scLaw.nd
  have hfree : Free (A.deeper (envOfC "law" (defScope sLaw) s.heap.objs.size fn cdv)) := hg
  refine ⟨_, (pss_cons (ps_set (i := 1) nd rfl (Or.inl rfl) (pe_c C_law_pen (hr.mono (by decide)) rfl (pa_cons (pv 0) pa_nil)))
    (pss_cons (ps_par (i := 2) (j := 3) rfl nd rfl rfl (by decide) rfl rfl (pa_cons (pe_c C_law_odd (hr.mono (by decide)) rfl (pa_cons (pv 1) pa_nil)) (pa_cons (pe_c C_law_one_of (hr.mono (by decide)) rfl (pa_cons (pv 1) (pa_cons (pe_lst (pa_cons pe_int (pa_cons pe_int (pa_cons pe_int (pa_cons (pe_c C_law_draw (hr.mono (by decide)) rfl (pa_cons (pv 1) (pa_cons (pe_op op_pow pe_int pe_int) pa_nil))) pa_nil))))) pa_nil))) pa_nil)) (by rfl))
    (pss_cons (ps_set (i := 4) nd rfl (Or.inl rfl) (pe_c C_law_one_of (hr.mono (by decide)) rfl (pa_cons (pv 1) (pa_cons (pe_lst (pa_cons pe_non (pa_cons pe_str (pa_cons pe_str (pa_cons pe_str (pa_cons (pe_tup (pa_cons pe_str (pa_cons pe_int pa_nil))) (pa_cons (pe_tup (pa_cons pe_str (pa_cons pe_int pa_nil))) pa_nil))))))) pa_nil))))
    (pss_cons (ps_par (i := 5) (j := 6) rfl nd rfl rfl (by decide) rfl rfl (pa_cons (pe_E1 T.x0 (hr.mono (by decide)) rfl (pa_cons (pv 4) pa_nil)) (pa_cons (pe_E1k T.x0 (hr.mono (by decide)) rfl (pe_tup (pa_cons pe_str (pa_cons pe_int pa_nil)))) pa_nil)) (by rfl))
    (pss_cons (ps_set (i := 7) nd rfl (Or.inl rfl) (pe_and (pe_c C_law_right (hr.mono (by decide)) rfl (pa_cons pe_int (pa_cons pe_int (pa_cons (pe_lst (pa_cons (pv 5) (pa_cons (pv 6) pa_nil))) pa_nil)))) (pe_one (pe_cmpR op_eq (pe_callB (call_reprE hfree hr sy) (by rfl) B.repr (by decide +kernel) (pa_cons (pe_lst (pa_cons (pe_fld (pv 5)) (pa_cons (pe_fld (pv 6)) pa_nil))) pa_nil)) (pe_callB (call_reprE hfree hr sy) (by rfl) B.repr (by decide +kernel) (pa_cons (pe_lst (pa_cons (pv 4) (pa_cons (pe_tup (pa_cons pe_str (pa_cons pe_int pa_nil))) pa_nil))) pa_nil)) (nomark _)))))
    (pss_cons (ps_par (i := 5) (j := 6) rfl nd rfl rfl (by decide) rfl rfl (pa_cons (pe_E1 T.x4 (hr.mono (by decide)) rfl (pa_cons pe_str pa_nil)) (pa_cons (pe_E1k T.x4 (hr.mono (by decide)) rfl pe_str) pa_nil)) (by rfl))
    (pss_cons (ps_set (i := 7) nd rfl (Or.inl rfl) (pe_and (pv 7) (pe_and (pe_c C_law_right (hr.mono (by decide)) rfl (pa_cons pe_int (pa_cons pe_int (pa_cons (pe_lst (pa_cons (pv 5) (pa_cons (pv 6) pa_nil))) pa_nil)))) (pe_one (pe_cmpR op_eq (pe_callB (call_reprE hfree hr sy) (by rfl) B.repr (by decide +kernel) (pa_cons (pe_lst (pa_cons (pe_fld (pv 5)) (pa_cons (pe_fld (pv 6)) pa_nil))) pa_nil)) (pe_callB (call_reprE hfree hr sy) (by rfl) B.repr (by decide +kernel) (pa_cons (pe_lst (pa_cons pe_str (pa_cons pe_str pa_nil))) pa_nil)) (nomark _))))))
    (pss_cons (ps_par (i := 5) (j := 6) rfl nd rfl rfl (by decide) rfl rfl (pa_cons (pe_E1 T.x2 (hr.mono (by decide)) rfl (pa_cons (pv 3) pa_nil)) (pa_cons (pe_E1k T.x2 (hr.mono (by decide)) rfl pe_non) pa_nil)) (by rfl))
    (pss_cons (ps_set (i := 7) nd rfl (Or.inl rfl) (pe_and (pv 7) (pe_and (pe_c C_law_right (hr.mono (by decide)) rfl (pa_cons pe_int (pa_cons pe_int (pa_cons (pe_lst (pa_cons (pv 5) (pa_cons (pv 6) pa_nil))) pa_nil)))) (pe_one (pe_cmpR op_eq (pe_callB (call_reprE hfree hr sy) (by rfl) B.repr (by decide +kernel) (pa_cons (pe_lst (pa_cons (pe_fld (pv 5)) (pa_cons (pe_fld (pv 6)) pa_nil))) pa_nil)) (pe_callB (call_reprE hfree hr sy) (by rfl) B.repr (by decide +kernel) (pa_cons (pe_lst (pa_cons (pv 3) (pa_cons pe_non pa_nil))) pa_nil)) (nomark _))))))
    (pss_cons (ps_par (i := 5) (j := 6) rfl nd rfl rfl (by decide) rfl rfl (pa_cons (pe_E1 T.x3 (hr.mono (by decide)) rfl (pa_cons pe_int pa_nil)) (pa_cons (pe_E1k T.x3 (hr.mono (by decide)) rfl (pv 3)) pa_nil)) (by rfl))
    (pss_cons (ps_set (i := 7) nd rfl (Or.inl rfl) (pe_and (pv 7) (pe_and (pe_c C_law_right (hr.mono (by decide)) rfl (pa_cons pe_int (pa_cons pe_int (pa_cons (pe_lst (pa_cons (pv 5) (pa_cons (pv 6) pa_nil))) pa_nil)))) (pe_one (pe_cmpR op_eq (pe_callB (call_reprE hfree hr sy) (by rfl) B.repr (by decide +kernel) (pa_cons (pe_lst (pa_cons (pe_fld (pv 5)) (pa_cons (pe_fld (pv 6)) pa_nil))) pa_nil)) (pe_callB (call_reprE hfree hr sy) (by rfl) B.repr (by decide +kernel) (pa_cons (pe_lst (pa_cons pe_int (pa_cons (pv 3) pa_nil))) pa_nil)) (nomark _))))))
    (pss_cons (ps_par (i := 5) (j := 6) rfl nd rfl rfl (by decide) rfl rfl (pa_cons (pe_E1 T.x15 (hr.mono (by decide)) rfl (pa_cons (pv 3) pa_nil)) (pa_cons (pe_E1k T.x15 (hr.mono (by decide)) rfl pe_int) pa_nil)) (by rfl))
    (pss_cons (ps_set (i := 7) nd rfl (Or.inl rfl) (pe_and (pv 7) (pe_and (pe_c C_law_right (hr.mono (by decide)) rfl (pa_cons pe_int (pa_cons pe_int (pa_cons (pe_lst (pa_cons (pv 5) (pa_cons (pv 6) pa_nil))) pa_nil)))) (pe_one (pe_cmpR op_eq (pe_callB (call_reprE hfree hr sy) (by rfl) B.repr (by decide +kernel) (pa_cons (pe_lst (pa_cons (pe_fld (pv 5)) (pa_cons (pe_fld (pv 6)) pa_nil))) pa_nil)) (pe_callB (call_reprE hfree hr sy) (by rfl) B.repr (by decide +kernel) (pa_cons (pe_lst (pa_cons (pv 3) (pa_cons pe_int pa_nil))) pa_nil)) (nomark _))))))
    (pss_cons (ps_par (i := 5) (j := 6) rfl nd rfl rfl (by decide) rfl rfl (pa_cons (pe_E1 T.x5 (hr.mono (by decide)) rfl (pa_cons (pv 3) pa_nil)) (pa_cons (pe_E1k T.x5 (hr.mono (by decide)) rfl pe_int) pa_nil)) (by rfl))
    (pss_cons (ps_set (i := 7) nd rfl (Or.inl rfl) (pe_and (pv 7) (pe_and (pe_c C_law_right (hr.mono (by decide)) rfl (pa_cons pe_int (pa_cons pe_int (pa_cons (pe_lst (pa_cons (pv 5) (pa_cons (pv 6) pa_nil))) pa_nil)))) (pe_one (pe_cmpR op_eq (pe_callB (call_reprE hfree hr sy) (by rfl) B.repr (by decide +kernel) (pa_cons (pe_lst (pa_cons (pe_fld (pv 5)) (pa_cons (pe_fld (pv 6)) pa_nil))) pa_nil)) (pe_callB (call_reprE hfree hr sy) (by rfl) B.repr (by decide +kernel) (pa_cons (pe_lst (pa_cons (pv 3) (pa_cons pe_int pa_nil))) pa_nil)) (nomark _))))))
    (pss_cons (ps_par (i := 5) (j := 6) rfl nd rfl rfl (by decide) rfl rfl (pa_cons (pe_E1 T.x14 (hr.mono (by decide)) rfl (pa_cons (pv 2) pa_nil)) (pa_cons (pe_E1k T.x14 (hr.mono (by decide)) rfl (pv 3)) pa_nil)) (by rfl))
    (pss_cons (ps_set (i := 7) nd rfl (Or.inl rfl) (pe_and (pv 7) (pe_and (pe_c C_law_right (hr.mono (by decide)) rfl (pa_cons pe_int (pa_cons pe_int (pa_cons (pe_lst (pa_cons (pv 5) (pa_cons (pv 6) pa_nil))) pa_nil)))) (pe_one (pe_cmpR op_eq (pe_callB (call_reprE hfree hr sy) (by rfl) B.repr (by decide +kernel) (pa_cons (pe_lst (pa_cons (pe_fld (pv 5)) (pa_cons (pe_fld (pv 6)) pa_nil))) pa_nil)) (pe_callB (call_reprE hfree hr sy) (by rfl) B.repr (by decide +kernel) (pa_cons (pe_lst (pa_cons (pv 2) (pa_cons (pv 3) pa_nil))) pa_nil)) (nomark _))))))
    (pss_cons (ps_par (i := 5) (j := 6) rfl nd rfl rfl (by decide) rfl rfl (pa_cons (pe_E1 T.x13 (hr.mono (by decide)) rfl (pa_cons (pv 3) pa_nil)) (pa_cons (pe_E1k T.x13 (hr.mono (by decide)) rfl pe_int) pa_nil)) (by rfl))
    (pss_cons (ps_set (i := 7) nd rfl (Or.inl rfl) (pe_and (pv 7) (pe_and (pe_c C_law_right (hr.mono (by decide)) rfl (pa_cons pe_int (pa_cons pe_int (pa_cons (pe_lst (pa_cons (pv 5) (pa_cons (pv 6) pa_nil))) pa_nil)))) (pe_one (pe_cmpR op_eq (pe_callB (call_reprE hfree hr sy) (by rfl) B.repr (by decide +kernel) (pa_cons (pe_lst (pa_cons (pe_fld (pv 5)) (pa_cons (pe_fld (pv 6)) pa_nil))) pa_nil)) (pe_callB (call_reprE hfree hr sy) (by rfl) B.repr (by decide +kernel) (pa_cons (pe_lst (pa_cons (pv 3) (pa_cons pe_int pa_nil))) pa_nil)) (nomark _))))))
    (pss_cons (ps_par (i := 5) (j := 6) rfl nd rfl rfl (by decide) rfl rfl (pa_cons (pe_E1 T.x8 (hr.mono (by decide)) rfl (pa_cons (pv 3) pa_nil)) (pa_cons (pe_E1k T.x8 (hr.mono (by decide)) rfl pe_int) pa_nil)) (by rfl))
    (pss_cons (ps_set (i := 7) nd rfl (Or.inl rfl) (pe_and (pv 7) (pe_and (pe_c C_law_right (hr.mono (by decide)) rfl (pa_cons pe_int (pa_cons pe_int (pa_cons (pe_lst (pa_cons (pv 5) (pa_cons (pv 6) pa_nil))) pa_nil)))) (pe_one (pe_cmpR op_eq (pe_callB (call_reprE hfree hr sy) (by rfl) B.repr (by decide +kernel) (pa_cons (pe_lst (pa_cons (pe_fld (pv 5)) (pa_cons (pe_fld (pv 6)) pa_nil))) pa_nil)) (pe_callB (call_reprE hfree hr sy) (by rfl) B.repr (by decide +kernel) (pa_cons (pe_lst (pa_cons (pv 3) (pa_cons pe_int pa_nil))) pa_nil)) (nomark _))))))
    (pss_cons (ps_set (i := 7) nd rfl (Or.inl rfl) (pe_and (pv 7) (pe_and (pe_cg C_law_refused_right hfree (hr.mono (by decide)) rfl (pa_cons (pv 3) pa_nil)) (pe_one (pe_c0 C_law_plain_right (hr.mono (by decide)) rfl)))))
    (pss_cons (ps_par (i := 5) (j := 6) rfl nd rfl rfl (by decide) rfl rfl (pa_cons (pe_E1 T.x11 (hr.mono (by decide)) rfl (pa_cons (pv 3) pa_nil)) (pa_cons (pe_E1k T.x11 (hr.mono (by decide)) rfl pe_int) pa_nil)) (by rfl))
    (pss_one (ps_ret (pe_and (pv 7) (pe_and (pe_c C_law_right (hr.mono (by decide)) rfl (pa_cons pe_int (pa_cons pe_int (pa_cons (pe_lst (pa_cons (pv 5) (pa_cons (pv 6) pa_nil))) pa_nil)))) (pe_one (pe_cmpR op_eq (pe_callB (call_reprE hfree hr sy) (by rfl) B.repr (by decide +kernel) (pa_cons (pe_lst (pa_cons (pe_fld (pv 5)) (pa_cons (pe_fld (pv 6)) pa_nil))) pa_nil)) (pe_callB (call_reprE hfree hr sy) (by rfl) B.repr (by decide +kernel) (pa_cons (pe_lst (pa_cons (pv 3) (pa_cons pe_int pa_nil))) pa_nil)) (nomark _)))))))))))))))))))))))))))))), ?_⟩
  refine ⟨_, rfl, a, ns, rfl, hS, hn, fun p H1 o1 => ?_⟩
  show tSeq _ _ _ _ H1
  -- thing, count
  refine q_par (K := K) (π := some p) (M := H) (Φ2 := fun x y => x ∈ oddA ++ oddB ∧ ∃ z : Int, y = .int z ∧ 0 ≤ z ∧ z < 10 ^ 60)
    (el_cons (Φ := fun d => d ∈ oddA ++ oddB) (Φl := fun ds => ∃ z : Int, ds = [.int z] ∧ 0 ≤ z ∧ z < 10 ^ 60) (ed_callP (Φl := (· = [])) rfl el_nil (fun ds e => e) fun ds d _ hp => hp)
      (el_cons (Φ := fun d => ∃ z : Int, d = .int z ∧ 0 ≤ z ∧ z < 10 ^ 60) (ed_callP (Φl := fun ds => ∃ z : Int, ds = [.list [.int 0, .int 1, .int 17, .int z]] ∧ 0 ≤ z ∧ z < 10 ^ 60) rfl
        (el_cons (Φ := fun d => ∃ z : Int, d = .list [.int 0, .int 1, .int 17, .int z] ∧ 0 ≤ z ∧ z < 10 ^ 60) (ed_lst (Φl := fun ds => ∃ z : Int, ds = [.int 0, .int 1, .int 17, .int z] ∧ 0 ≤ z ∧ z < 10 ^ 60)
          (el_cons ed_i (el_cons ed_i (el_cons ed_i (el_cons (Φ := fun d => ∃ z : Int, d = .int z ∧ 0 ≤ z ∧ z < 10 ^ 60) (ed_callP (Φl := (· = [.int ((10 : Int) ^ (60 : Int).toNat)])) rfl (el_c (ed_op' ed_i ed_i (od_pow ⟨by decide, by decide, by decide⟩)) el_nil) (fun ds e => ⟨_, e, by decide +kernel, by decide +kernel⟩) fun ds d e hp => hp _ e) el_nil
            (Ψl := fun ds => ∃ z : Int, ds = [.int z] ∧ 0 ≤ z ∧ z < 10 ^ 60) fun d ds hd e => ?_) (Ψl := fun ds => ∃ z : Int, ds = [.int 17, .int z] ∧ 0 ≤ z ∧ z < 10 ^ 60) fun d ds e hd => ?_) (Ψl := fun ds => ∃ z : Int, ds = [.int 1, .int 17, .int z] ∧ 0 ≤ z ∧ z < 10 ^ 60) fun d ds e hd => ?_) fun d ds e hd => ?_)
          (fun ds hd => ?_) fun ds hd => ?_) el_nil fun d ds hd e => ?_) (fun ds hd => ?_) fun ds d hd hp => ?_) el_nil fun d ds hd e => ?_) fun d ds h1 h2 => ?_) o1 fun vt vc x y M1 H2 e s1 kt kc => ?_
  · obtain ⟨z, rfl, h⟩ := hd
    exact ⟨z, by rw [e], h⟩
  · obtain ⟨z, rfl, h⟩ := hd
    exact ⟨z, by rw [e], h⟩
  · obtain ⟨z, rfl, h⟩ := hd
    exact ⟨z, by rw [e], h⟩
  · obtain ⟨z, rfl, h⟩ := hd
    exact ⟨z, by rw [e], h⟩
  · obtain ⟨z, rfl, _⟩ := hd
    exact Nat.le_of_ble_eq_true rfl
  · obtain ⟨z, rfl, h⟩ := hd
    exact ⟨z, rfl, h⟩
  · obtain ⟨z, rfl, h⟩ := hd
    exact ⟨z, by rw [e], h⟩
  · obtain ⟨z, rfl, _⟩ := hd
    exact ⟨_, rfl, Nat.le_of_ble_eq_true rfl, Nat.le_of_ble_eq_true rfl⟩
  · obtain ⟨z, rfl, h0, h1⟩ := hd
    have hm := hp _ rfl
    simp only [List.mem_cons, List.not_mem_nil, or_false] at hm
    rcases hm with rfl | rfl | rfl | rfl
    · exact ⟨0, rfl, by decide, by decide +kernel⟩
    · exact ⟨1, rfl, by decide, by decide +kernel⟩
    · exact ⟨17, rfl, by decide, by decide +kernel⟩
    · exact ⟨z, rfl, h0, h1⟩
  · obtain ⟨z, rfl, h⟩ := hd
    exact ⟨z, by rw [e], h⟩
  · obtain ⟨z, rfl, h⟩ := h2
    exact ⟨d, .int z, rfl, h1, z, rfl, h⟩
  obtain ⟨ht, z, rfl, hz0, hz1⟩ := e
  have nt : Neat x := neat_ok (List.all_eq_true.mp odd_neat x ht)
  have nz := neat_int hz0 hz1
  have o2 := s1.okk o1
  -- piece
  refine q_asg (K := K) (π := some p) (M := M1) (Φ := fun d => d ∈ pieceL) (ed_callP (Φl := (· = [.list pieceL])) rfl (el_c (ed_l (ds := pieceL) (el_c ed_n (el_c ed_s (el_c ed_s (el_c ed_s (el_c (ed_t (el_c ed_s (el_c ed_i el_nil))) (el_c (ed_t (el_c ed_s (el_c ed_i el_nil))) el_nil)))))) (by decide)) el_nil) (fun ds e => ⟨_, e, by decide, by decide⟩) fun ds d e hp => hp _ e) o2 fun vp dp M2 H3 hp s2 kp => ?_
  have np : Neat dp := neat_ok (List.all_eq_true.mp piece_neat dp hp)
  have o3 := s2.okk o2
  have kt2 := dp_ex s2.ex kt
  have kc2 := dp_ex s2.ex kc
  rw [dp_int kc]
  clear kt kc
  have steps : ∀ {σ : L2.St} {M : Hp}, EvD K (some p) (tTup (tCons (tC (.str "steps")) (tCons (tC (.int 1)) tNil))) σ M (· = .tuple [.str "steps", .int 1]) := ed_t (el_c ed_s (el_c ed_i el_nil))
  refine q_made (x7 := none) (i := 0) (da := dp) (db := .tuple [.str "steps", .int 1]) (fun M' e => steps) (ed_var rfl kp) o3 fun va vb M3 H4 s3 ka kb => ?_
  refine q_asg (K := K) (π := some p) (M := M3) (Φ := (· = .bool true)) (ed_pair T.x0.T (by decide) rfl rfl (T.x0.no _ (by simp)) ka kb (ed_var rfl (dp_ex s3.ex kp)) steps np (neat_ok (by decide +kernel))) (s3.okk o3) fun v d M4 H5 e s4 kv => ?_
  subst e
  rw [dp_bl kv]
  have o4 := s4.okk (s3.okk o3)
  have kt4 := dp_ex (s3.ex.trans s4.ex) kt2
  refine q_block T.x4.T (by decide) rfl rfl (T.x4.no _ (by simp)) (fun _ _ _ _ _ => ed_s) (fun _ _ _ _ _ => ed_s) (neat_ok (by decide +kernel)) (neat_ok (by decide +kernel)) o4 fun y5 y6 M5 H6 t5 => ?_
  have o5 := t5.okk o4
  have kt5 := dp_ex t5.ex kt4
  refine q_block T.x2.T (by decide) rfl rfl (T.x2.no _ (by simp)) (fun _ _ _ _ _ => ed_var rfl (.int z)) (fun _ _ _ _ _ => ed_n) nz (neat_ok (by decide +kernel)) o5 fun y5 y6 M6 H7 t6 => ?_
  have o6 := t6.okk o5
  have kt6 := dp_ex t6.ex kt5
  refine q_block T.x3.T (by decide) rfl rfl (T.x3.no _ (by simp)) (fun _ _ _ _ _ => ed_i) (fun _ _ _ _ _ => ed_var rfl (.int z)) (neat_ok (by decide +kernel)) nz o6 fun y5 y6 M7 H8 t7 => ?_
  have o7 := t7.okk o6
  have kt7 := dp_ex t7.ex kt6
  refine q_block T.x15.T (by decide) rfl rfl (T.x15.no _ (by simp)) (fun _ _ _ _ _ => ed_var rfl (.int z)) (fun _ _ _ _ _ => ed_i) nz (neat_ok (by decide +kernel)) o7 fun y5 y6 M8 H9 t8 => ?_
  have o8 := t8.okk o7
  have kt8 := dp_ex t8.ex kt7
  refine q_block T.x5.T (by decide) rfl rfl (T.x5.no _ (by simp)) (fun _ _ _ _ _ => ed_var rfl (.int z)) (fun _ _ _ _ _ => ed_i) nz (neat_ok (by decide +kernel)) o8 fun y5 y6 M9 H10 t9 => ?_
  have o9 := t9.okk o8
  have kt9 := dp_ex t9.ex kt8
  refine q_block T.x14.T (by decide) rfl rfl (T.x14.no _ (by simp)) (fun _ _ _ _ e => ed_var rfl (dp_ex e kt9)) (fun _ _ _ _ _ => ed_var rfl (.int z)) nt nz o9 fun y5 y6 M10 H11 t10 => ?_
  have o10 := t10.okk o9
  have kt10 := dp_ex t10.ex kt9
  refine q_block T.x13.T (by decide) rfl rfl (T.x13.no _ (by simp)) (fun _ _ _ _ _ => ed_var rfl (.int z)) (fun _ _ _ _ _ => ed_i) nz (neat_ok (by decide +kernel)) o10 fun y5 y6 M11 H12 t11 => ?_
  have o11 := t11.okk o10
  have kt11 := dp_ex t11.ex kt10
  refine q_block T.x8.T (by decide) rfl rfl (T.x8.no _ (by simp)) (fun _ _ _ _ _ => ed_var rfl (.int z)) (fun _ _ _ _ _ => ed_i) nz (neat_ok (by decide +kernel)) o11 fun y5 y6 M12 H13 t12 => ?_
  have o12 := t12.okk o11
  have kt12 := dp_ex t12.ex kt11
  refine q_asg (K := K) (π := some p) (M := M12) (Φ := (· = .bool true)) ((ed_andV (a := true) (b := true) (ed_var rfl (.bl true)) fun _ => (ed_andV (a := true) (b := true) (ed_go (Φl := (· = [.int z])) (el_c (ed_var rfl (.int z)) el_nil) (fun ds e => ⟨z, e, hz0, hz1⟩) fun ds d _ hp => hp) fun _ =>
    ed_call (Φl := (· = [])) el_nil (fun ds e => e) fun ds d _ hp => hp).imp fun d e => e).imp fun d e => e) o12 fun v d MA HA e tA kv => ?_
  subst e
  rw [dp_bl kv]
  have oA := tA.okk o12
  refine q_made (i := 11) (da := .int z) (db := .int 400) (fun M' e => ed_i) (ed_var rfl (.int z)) oA fun va vb MB HB tB ka kb => ?_
  refine s_ret (K := K) (π := some p) (M := MB) (Φ := (· = .bool true)) ((ed_andV (a := true) (b := true) (ed_var rfl (.bl true)) fun _ => ed_pair T.x11.T (by decide) rfl rfl (T.x11.no _ (by simp)) ka kb (ed_var rfl (.int z)) ed_i nz (neat_ok (by decide +kernel))).imp fun d e => e) (tB.okk oA) fun v d N HN e _ kv => ?_
  subst e
  rw [dp_bl kv]
  exact q HN
end
end K86

set_option maxRecDepth 100000
set_option maxHeartbeats 4000000
namespace K86
open PySem PySem.Spec PyProof.Rows L2 Gd Dt Dl Ee
theorem ob_mk {K : PySem.W.Frag} {C : Addr} {nm q : Str} {N : Addr} {bs : List Value} {sn : List Str} {sub : List Value} {ab : Bool} {col : Option Bool} {dd : Option Addr} {k0 k1 k2 k3 k5 : Option Value} {newId : String} {mB : List Value}
    (h : K.lookup C = some (excClassObj nm q C N bs mB true sn sub ab col dd k0 k1 k2 k3 k5 newId)) : ∃ nm q N bs sn sub ab col dd k0 k1 k2 k3 k5, K.lookup C = some (excClassObj nm q C N bs mB true sn sub ab col dd k0 k1 k2 k3 k5 newId) := ⟨_, _, _, _, _, _, _, _, _, _, _, _, _, _, h⟩
theorem no0 {p : Str → Prop} : ∀ f ∈ ([] : List Str), p f := fun f h => by cases h
theorem no1 {p : Str → Prop} {a : Str} (h : p a) : ∀ f ∈ [a], p f := fun f hf => by rw [List.mem_singleton.mp hf]; exact h
theorem no2 {p : Str → Prop} {a b : Str} (h : p a) (h2 : p b) : ∀ f ∈ [a, b], p f := fun f hf => by
  rcases List.mem_cons.mp hf with rfl | hf
  · exact h
  · rw [List.mem_singleton.mp hf]
    exact h2
theorem all_mk {l : PySem.W.OpenLaw} {w : World} {K : PySem.W.Frag} {h : Heap} {mg : Str → Option Value} {fa c0 c1 c2 c3 c4 c5 c6 c7 c8 c9 c10 c11 c12 c13 c14 c15 f0 f1 f2 f3 f4 f5 f6 f7 f8 f9 f10 f11 f12 f13 f14 f15 g0 g1 g2 g3 g4 g5 g6 g7 g8 g9 g10 : Addr} {ee0 ee1 ee2 ee3 ee4 ee5 ee6 ee7 ee8 ee9 ee10 ee11 ee12 ee13 ee14 ee15 h0 h1 h2 h3 h4 h5 h6 h7 h8 h9 : FuncData} {kV doc pm cdv ct : Value} {an : Option Addr}
    (X : K.In h) (G : h.Ns mainGlobals mg) (hfa : mg "law" = some (.ref fa))
    (r0 : Raw K "InvalidProgram" "InvalidProgram.__init__" (inner (top 1)) c0 f0 ee0 "ValueError" "ValueError.__new__" mVal ["part"])
    (r1 : Raw K "InvalidLot" "InvalidLot.__init__" (inner (top 2)) c1 f1 ee1 "ValueError" "ValueError.__new__" mVal [])
    (r2 : Raw K "InvalidSituation" "InvalidSituation.__init__" (inner (top 3)) c2 f2 ee2 "ValueError" "ValueError.__new__" mVal ["index"])
    (r3 : Raw K "InvalidOptions" "InvalidOptions.__init__" (inner (top 4)) c3 f3 ee3 "ValueError" "ValueError.__new__" mVal ["index"])
    (r4 : Raw K "InvalidClaim" "InvalidClaim.__init__" (inner (top 5)) c4 f4 ee4 "ValueError" "ValueError.__new__" mVal ["part"])
    (r5 : Raw K "ParseError" "ParseError.__init__" (inner (top 7)) c5 f5 ee5 "ValueError" "ValueError.__new__" mVal ["line"])
    (r6 : Raw K "CannotDo" "CannotDo.__init__" (inner (top 9)) c6 f6 ee6 "RuntimeError" "RuntimeError.__new__" mRun [])
    (r7 : Raw K "CannotLose" "CannotLose.__init__" (inner (top 10)) c7 f7 ee7 "RuntimeError" "RuntimeError.__new__" mRun [])
    (r8 : Raw K "Stuck" "Stuck.__init__" (inner (top 13)) c8 f8 ee8 "RuntimeError" "RuntimeError.__new__" mRun ["index"])
    (r9 : Raw K "Refused" "Refused.__init__" (inner (top 14)) c9 f9 ee9 "RuntimeError" "RuntimeError.__new__" mRun ["index", "reason"])
    (r10 : Raw K "NothingDone" "NothingDone.__init__" (inner (top 15)) c10 f10 ee10 "RuntimeError" "RuntimeError.__new__" mRun [])
    (r11 : Raw K "LimitExceeded" "LimitExceeded.__init__" (inner (top 16)) c11 f11 ee11 "OverflowError" "OverflowError.__new__" mOvf ["limit"])
    (r12 : Raw K "CannotWear" "CannotWear.__init__" (inner (top 11)) c12 f12 ee12 "RuntimeError" "RuntimeError.__new__" mRun [])
    (r13 : Raw K "OutOfReach" "OutOfReach.__init__" (inner (top 12)) c13 f13 ee13 "RuntimeError" "RuntimeError.__new__" mRun ["goal"])
    (r14 : Raw K "UnknownGoal" "UnknownGoal.__init__" (inner (top 8)) c14 f14 ee14 "LookupError" "LookupError.__new__" mLok ["goal"])
    (r15 : Raw K "InvalidGoals" "InvalidGoals.__init__" (inner (top 6)) c15 f15 ee15 "ValueError" "ValueError.__new__" mVal ["index"])
    (hnd : [c0, c1, c2, c3, c4, c5, c6, c7, c8, c9, c10, c11, c12, c13, c14, c15].Nodup)
    (d0 : Dfn K "_law_pen" sPen g0 h0)
    (d1 : Dfn K "_law_fresh" sFresh g1 h1)
    (d2 : Dfn K "_law_draw" sDraw g2 h2)
    (d3 : Dfn K "_law_one_of" sOne g3 h3)
    (d4 : Dfn K "_law_odd" sOdd g4 h4)
    (d5 : Dfn K "_law_sort" sSort g5 h5)
    (d6 : Dfn K "_law_built" sBuilt g6 h6)
    (d7 : Dfn K "_law_right" sRight g7 h7)
    (d8 : Dfn K "_law_plain_right" sPlain g8 h8)
    (d9 : Dfn K "_law_refused_right" sRefused g9 h9)
    (d10 : Dfn K "law" sLaw g10 (PySem.W.fnOf "law" "law" (defArgs sLaw) (defBody sLaw) (defScope sLaw) .none kV doc pm an cdv ct))
    (z0 : PySem.W.nsIn K mainGlobals "len" = some none)
    (z1 : PySem.W.nsIn K mainGlobals "int" = some none)
    (z2 : PySem.W.nsIn K mainGlobals "list" = some none)
    (z3 : PySem.W.nsIn K mainGlobals "tuple" = some none)
    (z4 : PySem.W.nsIn K mainGlobals "repr" = some none)
    (z5 : PySem.W.nsIn K mainGlobals "range" = some none)
    (z6 : PySem.W.nsIn K mainGlobals "zip" = some none)
    (z7 : PySem.W.nsIn K mainGlobals "all" = some none)
    (z8 : PySem.W.nsIn K mainGlobals "isinstance" = some none)
    (z9 : PySem.W.nsIn K mainGlobals "ValueError" = some none)
    (z10 : PySem.W.nsIn K mainGlobals "RuntimeError" = some none)
    (z11 : PySem.W.nsIn K mainGlobals "OverflowError" = some none)
    (z12 : PySem.W.nsIn K mainGlobals "LookupError" = some none)
    (z13 : PySem.W.nsIn K mainGlobals "TypeError" = some none)
    (z14 : PySem.W.nsIn K mainGlobals "KeyError" = some none)
    (z15 : PySem.W.nsIn K mainGlobals "IndexError" = some none)
    (z16 : PySem.W.nsIn K mainGlobals "NotImplementedError" = some none)
    : ∃ fd : FuncData, (∀ (s : Shared) (v : Value), BindsTo s fd ⟨[v], []⟩ [("script", v)]) ∧ ∀ base : Heap, K.In base → base.Ns mainGlobals mg → Sy base → Fn l.prog w K mg base 5 fa fd ["script"] (spLaw K) := by
  have e := hfa.symm.trans (PySem.W.mg_of X G d10.1)
  cases e
  refine ⟨PySem.W.fnOf "law" "law" (defArgs sLaw) (defBody sLaw) (defScope sLaw) .none kV doc pm an cdv ct, fun s v => .of_eq rfl, fun base _ _ sy => ?_⟩
  have no : ∀ {x : Str}, PySem.W.nsIn K mainGlobals x = some none → mg x = none := fun z => PySem.W.mg_none_of X G z
  have B : B86 mg := { len := no z0, int := no z1, list := no z2, tuple := no z3, repr := no z4, range := no z5, zip := no z6, all := no z7, isi := no z8, b0 := no z9, b1 := no z10, b2 := no z11, b3 := no z12, b4 := no z13, b5 := no z14, b6 := no z15, b7 := no z16 }
  have at_ : ∀ {x : Str} {f : Addr}, PySem.W.nsIn K mainGlobals x = some (some (.ref f)) → mg x = some (.ref f) := fun a => PySem.W.mg_of X G a
  have T : Txt l.prog w K mg base (fun n => [c0, c1, c2, c3, c4, c5, c6, c7, c8, c9, c10, c11, c12, c13, c14, c15].getD n 0) :=
    { inj := fun i j hi hj z => by
        have hi' : i < [c0, c1, c2, c3, c4, c5, c6, c7, c8, c9, c10, c11, c12, c13, c14, c15].length := hi
        have hj' : j < [c0, c1, c2, c3, c4, c5, c6, c7, c8, c9, c10, c11, c12, c13, c14, c15].length := hj
        have z' : [c0, c1, c2, c3, c4, c5, c6, c7, c8, c9, c10, c11, c12, c13, c14, c15].getD i 0 = [c0, c1, c2, c3, c4, c5, c6, c7, c8, c9, c10, c11, c12, c13, c14, c15].getD j 0 := z
        rw [List.getD_eq_getElem?_getD, List.getD_eq_getElem?_getD, List.getElem?_eq_getElem hi', List.getElem?_eq_getElem hj', Option.getD_some, Option.getD_some] at z'
        rcases Nat.lt_trichotomy i j with q | q | q
        · exact absurd z' (List.pairwise_iff_getElem.mp hnd i j hi' hj' q)
        · exact q
        · exact absurd z'.symm (List.pairwise_iff_getElem.mp hnd j i hj' hi' q)
      x0 := e1 r0 (at_ r0.at_)
      x1 := e2 r1 (at_ r1.at_)
      x2 := e3 r2 (at_ r2.at_)
      x3 := e4 r3 (at_ r3.at_)
      x4 := e5 r4 (at_ r4.at_)
      x5 := e7 r5 (at_ r5.at_)
      x6 := e9 r6 (at_ r6.at_)
      x7 := e10 r7 (at_ r7.at_)
      x8 := e13 r8 (at_ r8.at_)
      x9 := e14 r9 (at_ r9.at_)
      x10 := e15 r10 (at_ r10.at_)
      x11 := e16 r11 (at_ r11.at_)
      x12 := e11 r12 (at_ r12.at_)
      x13 := e12 r13 (at_ r13.at_)
      x14 := e8 r14 (at_ r14.at_)
      x15 := e6 r15 (at_ r15.at_)
    }
  have cpen := c_pen (P := l.prog) (w := w) (base := base) d0.2 (at_ d0.1) B.toBlt
  have cfresh := c_fresh (P := l.prog) (w := w) (base := base) d1.2 (at_ d1.1) B.toBlt
  have cdraw := c_draw d2.2 (at_ d2.1) B.toBlt cfresh
  have cone := c_one d3.2 (at_ d3.1) B.toBlt cdraw
  have codd := c_odd d4.2 (at_ d4.1) B.toBlt cone
  have csort := c_sort d5.2 (at_ d5.1) B T
  have cbuilt := c_built d6.2 (at_ d6.1) B T
  have cright := c_right d7.2 (at_ d7.1) B T csort cbuilt
  have cplain := c_plain d8.2 (at_ d8.1) T cright
  have crefused := c_refused d9.2 (at_ d9.1) B T sy cright
  exact ok_law d10.2 B T sy cpen cdraw cone codd cright cplain crefused
end K86

open PySem PySem.W PyProof.Rows
set_option maxRecDepth 100000 in
set_option maxHeartbeats 0 in
theorem PySem.Challenge.cw_losinglanes_k86_errors_required_holds : PySem.Challenge.rw_losinglanes_k86_errors_required.Holds := by
  w_on; o_law; k_head; (case hw => w_witness2)
  k_fill
  refine Gd.walk_endS (l := PySem.Challenge.rw_losinglanes_k86_errors_required) (n := 63) (k := 5) (x := "script") (sp := K86.spLaw) (by decide +kernel) rfl (by decide) rfl ⟨rfl, by decide, by decide⟩ (fun w h Y => PySem.W.kIn_of Y) ?F (fun K H a ns hl hS => ⟨a, ns, rfl, hS, hl, fun _ => rfl⟩)
  case F =>
    intro w mg fa h KX G hmg
    refine' K86.all_mk KX G hmg ?r0 ?r1 ?r2 ?r3 ?r4 ?r5 ?r6 ?r7 ?r8 ?r9 ?r10 ?r11 ?r12 ?r13 ?r14 ?r15 ?hnd ?d0 ?d1 ?d2 ?d3 ?d4 ?d5 ?d6 ?d7 ?d8 ?d9 ?d10 ?z0 ?z1 ?z2 ?z3 ?z4 ?z5 ?z6 ?z7 ?z8 ?z9 ?z10 ?z11 ?z12 ?z13 ?z14 ?z15 ?z16
    (case r0 => refine' K86.Raw.mk ?at_ ?ob ?sa ?ga ?gg ?exC ?kC ?hdC ?ca ?gn ?tk ?mo ?ty ?iC ?tI ?Ff ?no; (case at_ => k_is); (case ob => refine' K86.ob_mk ?o; (case o => k_is)); (case sa => k_is); (case ga => k_is); (case gg => k_is); (case exC => k_is); (case kC => k_is); (case hdC => k_is); (case ca => k_is); (case gn => k_is); (case tk => k_is); (case mo => k_is); (case ty => k_is); (case iC => k_is); (case tI => k_is); (case Ff => refine' L2.fun_mk ?l ?c ?k; (case l => k_is); (case c => k_is); (case k => k_is)); (case no => refine' K86.no1 ?n1; (case n1 => k_is)))
    (case r1 => refine' K86.Raw.mk ?at_ ?ob ?sa ?ga ?gg ?exC ?kC ?hdC ?ca ?gn ?tk ?mo ?ty ?iC ?tI ?Ff ?no; (case at_ => k_is); (case ob => refine' K86.ob_mk ?o; (case o => k_is)); (case sa => k_is); (case ga => k_is); (case gg => k_is); (case exC => k_is); (case kC => k_is); (case hdC => k_is); (case ca => k_is); (case gn => k_is); (case tk => k_is); (case mo => k_is); (case ty => k_is); (case iC => k_is); (case tI => k_is); (case Ff => refine' L2.fun_mk ?l ?c ?k; (case l => k_is); (case c => k_is); (case k => k_is)); (case no => exact K86.no0))
    (case r2 => refine' K86.Raw.mk ?at_ ?ob ?sa ?ga ?gg ?exC ?kC ?hdC ?ca ?gn ?tk ?mo ?ty ?iC ?tI ?Ff ?no; (case at_ => k_is); (case ob => refine' K86.ob_mk ?o; (case o => k_is)); (case sa => k_is); (case ga => k_is); (case gg => k_is); (case exC => k_is); (case kC => k_is); (case hdC => k_is); (case ca => k_is); (case gn => k_is); (case tk => k_is); (case mo => k_is); (case ty => k_is); (case iC => k_is); (case tI => k_is); (case Ff => refine' L2.fun_mk ?l ?c ?k; (case l => k_is); (case c => k_is); (case k => k_is)); (case no => refine' K86.no1 ?n1; (case n1 => k_is)))
    (case r3 => refine' K86.Raw.mk ?at_ ?ob ?sa ?ga ?gg ?exC ?kC ?hdC ?ca ?gn ?tk ?mo ?ty ?iC ?tI ?Ff ?no; (case at_ => k_is); (case ob => refine' K86.ob_mk ?o; (case o => k_is)); (case sa => k_is); (case ga => k_is); (case gg => k_is); (case exC => k_is); (case kC => k_is); (case hdC => k_is); (case ca => k_is); (case gn => k_is); (case tk => k_is); (case mo => k_is); (case ty => k_is); (case iC => k_is); (case tI => k_is); (case Ff => refine' L2.fun_mk ?l ?c ?k; (case l => k_is); (case c => k_is); (case k => k_is)); (case no => refine' K86.no1 ?n1; (case n1 => k_is)))
    (case r4 => refine' K86.Raw.mk ?at_ ?ob ?sa ?ga ?gg ?exC ?kC ?hdC ?ca ?gn ?tk ?mo ?ty ?iC ?tI ?Ff ?no; (case at_ => k_is); (case ob => refine' K86.ob_mk ?o; (case o => k_is)); (case sa => k_is); (case ga => k_is); (case gg => k_is); (case exC => k_is); (case kC => k_is); (case hdC => k_is); (case ca => k_is); (case gn => k_is); (case tk => k_is); (case mo => k_is); (case ty => k_is); (case iC => k_is); (case tI => k_is); (case Ff => refine' L2.fun_mk ?l ?c ?k; (case l => k_is); (case c => k_is); (case k => k_is)); (case no => refine' K86.no1 ?n1; (case n1 => k_is)))
    (case r5 => refine' K86.Raw.mk ?at_ ?ob ?sa ?ga ?gg ?exC ?kC ?hdC ?ca ?gn ?tk ?mo ?ty ?iC ?tI ?Ff ?no; (case at_ => k_is); (case ob => refine' K86.ob_mk ?o; (case o => k_is)); (case sa => k_is); (case ga => k_is); (case gg => k_is); (case exC => k_is); (case kC => k_is); (case hdC => k_is); (case ca => k_is); (case gn => k_is); (case tk => k_is); (case mo => k_is); (case ty => k_is); (case iC => k_is); (case tI => k_is); (case Ff => refine' L2.fun_mk ?l ?c ?k; (case l => k_is); (case c => k_is); (case k => k_is)); (case no => refine' K86.no1 ?n1; (case n1 => k_is)))
    (case r6 => refine' K86.Raw.mk ?at_ ?ob ?sa ?ga ?gg ?exC ?kC ?hdC ?ca ?gn ?tk ?mo ?ty ?iC ?tI ?Ff ?no; (case at_ => k_is); (case ob => refine' K86.ob_mk ?o; (case o => k_is)); (case sa => k_is); (case ga => k_is); (case gg => k_is); (case exC => k_is); (case kC => k_is); (case hdC => k_is); (case ca => k_is); (case gn => k_is); (case tk => k_is); (case mo => k_is); (case ty => k_is); (case iC => k_is); (case tI => k_is); (case Ff => refine' L2.fun_mk ?l ?c ?k; (case l => k_is); (case c => k_is); (case k => k_is)); (case no => exact K86.no0))
    (case r7 => refine' K86.Raw.mk ?at_ ?ob ?sa ?ga ?gg ?exC ?kC ?hdC ?ca ?gn ?tk ?mo ?ty ?iC ?tI ?Ff ?no; (case at_ => k_is); (case ob => refine' K86.ob_mk ?o; (case o => k_is)); (case sa => k_is); (case ga => k_is); (case gg => k_is); (case exC => k_is); (case kC => k_is); (case hdC => k_is); (case ca => k_is); (case gn => k_is); (case tk => k_is); (case mo => k_is); (case ty => k_is); (case iC => k_is); (case tI => k_is); (case Ff => refine' L2.fun_mk ?l ?c ?k; (case l => k_is); (case c => k_is); (case k => k_is)); (case no => exact K86.no0))
    (case r8 => refine' K86.Raw.mk ?at_ ?ob ?sa ?ga ?gg ?exC ?kC ?hdC ?ca ?gn ?tk ?mo ?ty ?iC ?tI ?Ff ?no; (case at_ => k_is); (case ob => refine' K86.ob_mk ?o; (case o => k_is)); (case sa => k_is); (case ga => k_is); (case gg => k_is); (case exC => k_is); (case kC => k_is); (case hdC => k_is); (case ca => k_is); (case gn => k_is); (case tk => k_is); (case mo => k_is); (case ty => k_is); (case iC => k_is); (case tI => k_is); (case Ff => refine' L2.fun_mk ?l ?c ?k; (case l => k_is); (case c => k_is); (case k => k_is)); (case no => refine' K86.no1 ?n1; (case n1 => k_is)))
    (case r9 => refine' K86.Raw.mk ?at_ ?ob ?sa ?ga ?gg ?exC ?kC ?hdC ?ca ?gn ?tk ?mo ?ty ?iC ?tI ?Ff ?no; (case at_ => k_is); (case ob => refine' K86.ob_mk ?o; (case o => k_is)); (case sa => k_is); (case ga => k_is); (case gg => k_is); (case exC => k_is); (case kC => k_is); (case hdC => k_is); (case ca => k_is); (case gn => k_is); (case tk => k_is); (case mo => k_is); (case ty => k_is); (case iC => k_is); (case tI => k_is); (case Ff => refine' L2.fun_mk ?l ?c ?k; (case l => k_is); (case c => k_is); (case k => k_is)); (case no => refine' K86.no2 ?n1 ?n2; (case n1 => k_is); (case n2 => k_is)))
    (case r10 => refine' K86.Raw.mk ?at_ ?ob ?sa ?ga ?gg ?exC ?kC ?hdC ?ca ?gn ?tk ?mo ?ty ?iC ?tI ?Ff ?no; (case at_ => k_is); (case ob => refine' K86.ob_mk ?o; (case o => k_is)); (case sa => k_is); (case ga => k_is); (case gg => k_is); (case exC => k_is); (case kC => k_is); (case hdC => k_is); (case ca => k_is); (case gn => k_is); (case tk => k_is); (case mo => k_is); (case ty => k_is); (case iC => k_is); (case tI => k_is); (case Ff => refine' L2.fun_mk ?l ?c ?k; (case l => k_is); (case c => k_is); (case k => k_is)); (case no => exact K86.no0))
    (case r11 => refine' K86.Raw.mk ?at_ ?ob ?sa ?ga ?gg ?exC ?kC ?hdC ?ca ?gn ?tk ?mo ?ty ?iC ?tI ?Ff ?no; (case at_ => k_is); (case ob => refine' K86.ob_mk ?o; (case o => k_is)); (case sa => k_is); (case ga => k_is); (case gg => k_is); (case exC => k_is); (case kC => k_is); (case hdC => k_is); (case ca => k_is); (case gn => k_is); (case tk => k_is); (case mo => k_is); (case ty => k_is); (case iC => k_is); (case tI => k_is); (case Ff => refine' L2.fun_mk ?l ?c ?k; (case l => k_is); (case c => k_is); (case k => k_is)); (case no => refine' K86.no1 ?n1; (case n1 => k_is)))
    (case r12 => refine' K86.Raw.mk ?at_ ?ob ?sa ?ga ?gg ?exC ?kC ?hdC ?ca ?gn ?tk ?mo ?ty ?iC ?tI ?Ff ?no; (case at_ => k_is); (case ob => refine' K86.ob_mk ?o; (case o => k_is)); (case sa => k_is); (case ga => k_is); (case gg => k_is); (case exC => k_is); (case kC => k_is); (case hdC => k_is); (case ca => k_is); (case gn => k_is); (case tk => k_is); (case mo => k_is); (case ty => k_is); (case iC => k_is); (case tI => k_is); (case Ff => refine' L2.fun_mk ?l ?c ?k; (case l => k_is); (case c => k_is); (case k => k_is)); (case no => exact K86.no0))
    (case r13 => refine' K86.Raw.mk ?at_ ?ob ?sa ?ga ?gg ?exC ?kC ?hdC ?ca ?gn ?tk ?mo ?ty ?iC ?tI ?Ff ?no; (case at_ => k_is); (case ob => refine' K86.ob_mk ?o; (case o => k_is)); (case sa => k_is); (case ga => k_is); (case gg => k_is); (case exC => k_is); (case kC => k_is); (case hdC => k_is); (case ca => k_is); (case gn => k_is); (case tk => k_is); (case mo => k_is); (case ty => k_is); (case iC => k_is); (case tI => k_is); (case Ff => refine' L2.fun_mk ?l ?c ?k; (case l => k_is); (case c => k_is); (case k => k_is)); (case no => refine' K86.no1 ?n1; (case n1 => k_is)))
    (case r14 => refine' K86.Raw.mk ?at_ ?ob ?sa ?ga ?gg ?exC ?kC ?hdC ?ca ?gn ?tk ?mo ?ty ?iC ?tI ?Ff ?no; (case at_ => k_is); (case ob => refine' K86.ob_mk ?o; (case o => k_is)); (case sa => k_is); (case ga => k_is); (case gg => k_is); (case exC => k_is); (case kC => k_is); (case hdC => k_is); (case ca => k_is); (case gn => k_is); (case tk => k_is); (case mo => k_is); (case ty => k_is); (case iC => k_is); (case tI => k_is); (case Ff => refine' L2.fun_mk ?l ?c ?k; (case l => k_is); (case c => k_is); (case k => k_is)); (case no => refine' K86.no1 ?n1; (case n1 => k_is)))
    (case r15 => refine' K86.Raw.mk ?at_ ?ob ?sa ?ga ?gg ?exC ?kC ?hdC ?ca ?gn ?tk ?mo ?ty ?iC ?tI ?Ff ?no; (case at_ => k_is); (case ob => refine' K86.ob_mk ?o; (case o => k_is)); (case sa => k_is); (case ga => k_is); (case gg => k_is); (case exC => k_is); (case kC => k_is); (case hdC => k_is); (case ca => k_is); (case gn => k_is); (case tk => k_is); (case mo => k_is); (case ty => k_is); (case iC => k_is); (case tI => k_is); (case Ff => refine' L2.fun_mk ?l ?c ?k; (case l => k_is); (case c => k_is); (case k => k_is)); (case no => refine' K86.no1 ?n1; (case n1 => k_is)))
    (case hnd => decide)
    (case d0 => refine' Gd.dfn_mk ?a ?l ?c ?k; (case a => k_is); (case l => k_is); (case c => k_is); (case k => k_is))
    (case d1 => refine' Gd.dfn_mk ?a ?l ?c ?k; (case a => k_is); (case l => k_is); (case c => k_is); (case k => k_is))
    (case d2 => refine' Gd.dfn_mk ?a ?l ?c ?k; (case a => k_is); (case l => k_is); (case c => k_is); (case k => k_is))
    (case d3 => refine' Gd.dfn_mk ?a ?l ?c ?k; (case a => k_is); (case l => k_is); (case c => k_is); (case k => k_is))
    (case d4 => refine' Gd.dfn_mk ?a ?l ?c ?k; (case a => k_is); (case l => k_is); (case c => k_is); (case k => k_is))
    (case d5 => refine' Gd.dfn_mk ?a ?l ?c ?k; (case a => k_is); (case l => k_is); (case c => k_is); (case k => k_is))
    (case d6 => refine' Gd.dfn_mk ?a ?l ?c ?k; (case a => k_is); (case l => k_is); (case c => k_is); (case k => k_is))
    (case d7 => refine' Gd.dfn_mk ?a ?l ?c ?k; (case a => k_is); (case l => k_is); (case c => k_is); (case k => k_is))
    (case d8 => refine' Gd.dfn_mk ?a ?l ?c ?k; (case a => k_is); (case l => k_is); (case c => k_is); (case k => k_is))
    (case d9 => refine' Gd.dfn_mk ?a ?l ?c ?k; (case a => k_is); (case l => k_is); (case c => k_is); (case k => k_is))
    (case d10 => refine' Gd.dfn_mk ?a ?l ?c ?k; (case a => k_is); (case l => k_is); (case c => k_is); (case k => k_is))
    (case z0 => k_is)
    (case z1 => k_is)
    (case z2 => k_is)
    (case z3 => k_is)
    (case z4 => k_is)
    (case z5 => k_is)
    (case z6 => k_is)
    (case z7 => k_is)
    (case z8 => k_is)
    (case z9 => k_is)
    (case z10 => k_is)
    (case z11 => k_is)
    (case z12 => k_is)
    (case z13 => k_is)
    (case z14 => k_is)
    (case z15 => k_is)
    (case z16 => k_is)

