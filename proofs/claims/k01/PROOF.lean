import PyProof.Rows.All
import Wide.All
import OpenK.AllK
import Wide.FinOn
import HandS.ForMost
import HandS.Evl
import HandS.TupAny
import HandS.TupMul
import HandS.Zip
import HandS.Style
import PyProof.ReprLen
import HandS.Wide
import HandS.Ends
import PySem.Challenge.RW_losinglanes_k01_words_within_others
set_option Elab.async false
set_option linter.all false
set_option maxRecDepth 100000
set_option maxHeartbeats 4000000
namespace Gd
open PySem PySem.Spec PyProof.Rows L2

/-- nothing is being shown around: no repr is on its way -/
def Free (A : Around) : Prop := A.guards = some []
theorem Free.deeper {A : Around} (g : Free A) (env : Env) : Free (A.deeper env) := g

/-- a def's promise where it is called from a place at which no repr is on its way -/
structure Fn (P : Program) (w : World) (K : PySem.W.Frag) (mg : Str → Option Value) (base : Heap) (k : Nat) (f : Addr) (fd : FuncData) (ps : List Str) (sp : Sp) : Prop where
  len : ∀ vs H Q E, sp vs H Q E → vs.length = ps.length
  run : ∀ (A : Around) (outer : List Env) (s : Shared) (H : Hp) (args : Args) (us : List Value) (vs : List V) (Q : VK) (E : XK),
    Free A → Room k A → Env0 P w K mg base A outer s H → BindsTo s fd args (ps.zip us) → Vals vs us → sp vs H Q E →
      codeAny (model P w) A (.call (.ref f) args) (CR CX0 outer P w H s Q E) s

section
variable {P : Program} {w : World} {K : PySem.W.Frag} {mg : Str → Option Value} {base : Heap} {k : Nat} {f : Addr} {fd : FuncData} {ps : List Str} {sp : Sp}
theorem Fn.of (F : FnOk P w K mg base CX0 k f fd ps sp) : Fn P w K mg base k f fd ps sp :=
  ⟨F.len, fun A outer s H args us vs Q E _ => F.run A outer s H args us vs Q E⟩

/-- a def of the text, by its body; the body is read where no repr is on its way -/
theorem ok {x qual : Str} {st : Stmt} {N : List Str} (F : Fun K x qual st f fd) (S : FnScope N ps (defScope st)) (len : ∀ vs H Q E, sp vs H Q E → vs.length = ps.length)
    (hbody : ∀ (cdv : Value) (A : Around) (outer : List Env) (s : Shared) (H : Hp) (vs : List V) (Q : VK) (E : XK),
      Free A → Room k (A.deeper (envOfC qual (defScope st) s.heap.objs.size f cdv)) → sp vs H Q E →
        ∃ t, PSs (cxOf CX0 P w K mg base N qual (defScope st) f cdv A outer s H E).nox (defBody st) t ∧
          t { nx := fun _ H' => Q .non H', rt := Q } (start N vs) H) : Fn P w K mg base (k + 1) f fd ps sp := by
  obtain ⟨oc, od, kV, doc, pm, an, cdv, ct, osl, rfl, lk, hcd⟩ := F.ex
  constructor
  · exact len
  intro A outer s H args us vs Q E hg hr e0 hb r hsp
  have hl := len _ _ _ _ hsp
  have keeps : ∀ b o, base.get? b = some o → s.heap.get? b = some o := fun b o e => (e0.bs b o e).1
  have KX := e0.mod.kin.keeps keeps
  have lim := e0.mod.nolimit.keeps keeps
  apply codeAny_call_function hr.depth (KX _ _ lk) rfl S.co S.gen rfl (PySem.W.codeRec_of KX hcd)
  apply hb
  apply wpAny_newFunctionEnv_cells S.kind
  · rintro ⟨n, v⟩ hy
    cases S.par n (List.of_mem_zip hy).1 with
    | inl q => exact .inl q
    | inr q => exact .inr ⟨q, PySem.W.cellsFrom_some _ _ _ (.inl q)⟩
  rintro env rfl s1 x
  refine ⟨lim.keeps x.toInCall.keep, ?_⟩
  apply codeAny_func
  obtain ⟨t, ht, hq⟩ := hbody cdv A outer s H vs Q E hg (hr.deeper _) hsp
  have I := inv_start (CX := CX0) (E := E) S hr.hd e0 hl r x
  apply wpAny_mono (ht.nox.run [] s1 (start N vs) H _ I hq)
  · intro fl s' hs
    cases fl with
    | ret u =>
      obtain ⟨v, σ', H', J, rv, q⟩ := hs
      exact ⟨v, H', J.os, J.bare, J.base, J.hok, rv, q⟩
    | next =>
      obtain ⟨σ', H', J, q⟩ := hs
      exact ⟨V.non, H', J.os, J.bare, J.base, J.hok, rfl, q⟩
    | brk => exact hs.elim fun _ h => h.elim fun _ h => h.2.elim
    | cont => exact hs.elim fun _ h => h.elim fun _ h => h.2.elim
  · exact fun e s' hs => hs
end

section
variable {X : Cx} {k : Nat} {f : Addr} {fd : FuncData} {ps : List Str} {sp : Sp} {x : Str} {p pos : Pos} {e : Expr} {es : List Expr} {t : TA}
/-- a call of such a def -/
theorem run {pins : List (Addr × Obj)} {σ : L2.St} {H : Hp} {s : Shared} {Q : VK} {us : List Value} {vs : List V} (F : Fn X.prog X.w X.K X.mg X.base k f fd ps sp) (hg : Free X.A) (hr : Room k X.A)
    (hb : L2.Binds X.K fd ps []) (I : Inv X pins σ H s) (r : Vals vs us) (h : sp vs H Q E0) : wpAny (model X.prog X.w) X.A (call (.ref f) us) (EP X pins σ Q) X.xe s := by
  have hl : (us ++ []).length = ps.length := by
    rw [List.append_nil, ← r.length]
    exact F.len _ _ _ _ h
  have bt := hb s us I.kIn hl
  rw [List.append_nil] at bt
  apply wpAny_call
  apply codeAny_mono (F.run X.A X.stack s H ⟨us, []⟩ us vs Q E0 hg hr I.env0 bt r h)
  intro r s' hq
  match r, hq with
  | .ok (.ret u), hq => exact I.after hq
  | .ok .next, hq => exact False.elim hq
  | .ok .brk, hq => exact False.elim hq
  | .ok .cont, hq => exact False.elim hq
  | .error e, hq => exact False.elim hq
def tGo (sp : Sp) (t : TA) : TE := fun σ H Q => t σ H fun vs H1 => sp vs H1 Q E0
theorem pe_go (F : Fn X.prog X.w X.K X.mg X.base k f fd ps sp) (hfree : Free X.A) (hr : Room k X.A) (hg : Gl X x) (hm : X.mg x = some (.ref f)) (hk : PySem.W.keepIn X.K (.ref f) = true) (hb : L2.Binds X.K fd ps [])
    (ha : PA X (e :: es) t) (hdb : (x == ("__debug__" : Str)) = false := by decide) (he : starEach (e :: es) X.env = (false, eval e X.env) :: starEach es X.env := by rfl)
    (hpl : (backTo pos (starEach es X.env)).any (·.1) = false := by rfl) : PE X (.Call (.Name x p) (e :: es) [] pos) (tGo sp t) := by
  constructor
  intro pins s σ H Q I h
  apply wpAny_Call_Name_kw (ld_glob I hg hm _ hdb)
  apply PySem.W.callWith_K (h₀ := X.base) I.ok.mod.kin hk _ he hpl
  apply thn (ha.run pos pins s σ H _ I h)
  rintro us s1 ⟨vs, H1, I1, r, q⟩
  exact ⟨I1.kIn, run F hfree hr hb I1 r q⟩
theorem pe_go0 (F : Fn X.prog X.w X.K X.mg X.base k f fd ps sp) (hfree : Free X.A) (hr : Room k X.A) (hg : Gl X x) (hm : X.mg x = some (.ref f)) (hk : PySem.W.keepIn X.K (.ref f) = true) (hb : L2.Binds X.K fd ps [])
    (hdb : (x == ("__debug__" : Str)) = false := by decide) : PE X (.Call (.Name x p) [] [] pos) (tGo sp tNil) := by
  constructor
  intro pins s σ H Q I h
  apply wpAny_Call_Name_kw (ld_glob I hg hm _ hdb)
  exact PySem.W.callWith_K0 I.kIn hk (run (us := []) F hfree hr hb I .nil h)

/-! ### repr of data -/
def rRepr (K : PySem.W.Frag) : List V → Hp → VK → Prop := fun xs H Q => ∃ (x : V) (d : PyData), xs = [x] ∧ Dp K H x d ∧ d.showable = true ∧ d.hasDict = false ∧ d.depth ≤ 40 ∧ d.shown.length ≤ sizeLine ∧
  Q (.str d.shown) H
theorem call_repr (hfree : Free X.A) (hr : Room k X.A) : CallR X (.builtin "repr") (rRepr X.K) := by
  intro pins s σ H xs us Q I r h
  obtain ⟨x, d, rfl, hd, hs, hn, hde, hz, q⟩ := h
  have hu := hr.units
  cases r with
  | cons rx rn =>
    cases rn
    rename_i u
    obtain ⟨as, rd⟩ := Dp.reads I d x u hd rx
    have fin : ∀ (a : Addr), u = .ref a → wpAny (model X.prog X.w) X.A (call (.builtin "repr") [u]) (EP X pins σ Q) X.xe s := by
      rintro a rfl
      apply repr_of_reads' rd hs (PyData.noDict_hsm hn) hfree (by omega) (fun _ _ e => e) _ hz
      intro h' u tk hk
      exact ⟨.str _, H, I.kept hk, ⟨_, rfl⟩, q⟩
    cases hd with
    | non =>
      cases rx
      exact P.repr_of_none ⟨.str _, H, I.tok _, ⟨_, rfl⟩, q⟩
    | bl b =>
      cases rx
      exact P.repr_of_bool ⟨.str _, H, I.tok _, ⟨_, rfl⟩, q⟩
    | int i =>
      obtain ⟨tk, rfl⟩ := rx
      have hi : i.natAbs.log2 < 1920 := of_decide_eq_true (by simpa [PyData.showable] using hs)
      exact P.repr_of_int hi ⟨.str _, H, I.tok _, ⟨_, rfl⟩, q⟩
    | str y =>
      obtain ⟨tk, rfl⟩ := rx
      exact P.repr_of_str ⟨.str _, H, I.tok _, ⟨_, rfl⟩, q⟩ hz
    | lst => exact fin _ rx
    | tup => exact fin _ rx
end
end Gd

set_option maxRecDepth 100000
set_option maxHeartbeats 4000000
namespace Dl
open PySem PySem.Spec PyProof.Rows L2 Gd
open Evl (Ex Ex.refl Ex.trans Ex.new ex_l ex_t sq_of st_of fresh_back)

/-! ### the pen: a list that a law changes by itself; all else that is read stays -/
structure Pn where
  p : Addr
  g : Addr
  ns : List Int
structure PenAt (K : PySem.W.Frag) (H : Hp) (q : Pn) : Prop where
  cells : ∃ seat left : Int, H q.p = some (.lst [.ref q.g, .int seat, .int left])
  given : SqL K H q.g (q.ns.map V.int)
  ne : q.g ≠ q.p
  few : q.ns.length ≤ 63
theorem PenAt.some {K : PySem.W.Frag} {H : Hp} {q : Pn} (h : PenAt K H q) : H q.p ≠ none := by
  obtain ⟨_, _, e⟩ := h.cells
  rw [e]
  exact fun z => by cases z
theorem PenAt.ex {K : PySem.W.Frag} {H H' : Hp} {q : Pn} (h : PenAt K H q) (e : Ex H H') : PenAt K H' q := by
  obtain ⟨a, b, h1⟩ := h.cells
  exact ⟨⟨a, b, e _ _ h1⟩, ex_l e h.given, h.ne, h.few⟩

/-- all but the pen stays -/
def Off (π : Option Pn) (H1 H2 : Hp) : Prop := ∀ a o, (∀ q, π = some q → a ≠ q.p) → H1 a = some o → H2 a = some o
theorem Off.of {π : Option Pn} {H1 H2 : Hp} (e : Ex H1 H2) : Off π H1 H2 := fun a o _ h => e a o h
theorem Off.trans {π : Option Pn} {H1 H2 H3 : Hp} (a : Off π H1 H2) (b : Off π H2 H3) : Off π H1 H3 := fun x o n h => b x o n (a x o n h)

/-- the core H0 of what is known, the heap H1 -/
structure Okk (K : PySem.W.Frag) (π : Option Pn) (H0 H1 : Hp) : Prop where
  ex : Ex H0 H1
  pen : ∀ q, π = some q → H0 q.p = none ∧ PenAt K H1 q
/-- the core grows by new objects alone -/
structure Stp (K : PySem.W.Frag) (π : Option Pn) (H0 H1 H0' H2 : Hp) : Prop where
  ex : Ex H0 H0'
  gr : ∀ a, H0' a ≠ none → H0 a ≠ none ∨ H1 a = none
  ex2 : Ex H0' H2
  off : Off π H1 H2
  pen : ∀ q, π = some q → PenAt K H2 q

section
variable {K : PySem.W.Frag} {π : Option Pn} {H0 H1 H2 H3 H0' H0'' : Hp}
theorem Okk.refl (h : π = none) : Okk K π H1 H1 := ⟨Ex.refl _, fun p e => by rw [h] at e; cases e⟩
theorem Okk.stp (o : Okk K π H0 H1) : Stp K π H0 H1 H0 H1 := ⟨Ex.refl _, fun a h => .inl h, o.ex, fun _ _ _ h => h, fun p e => (o.pen p e).2⟩
theorem Stp.okk (s : Stp K π H0 H1 H0' H2) (o : Okk K π H0 H1) : Okk K π H0' H2 := by
  refine ⟨s.ex2, fun q e => ⟨?_, s.pen q e⟩⟩
  obtain ⟨h1, h2⟩ := o.pen q e
  apply Classical.byContradiction
  intro hn
  rcases s.gr q.p hn with z | z
  · exact z h1
  · exact h2.some z
/-- an address of the heap that is no part of the core is none of it later -/
theorem Stp.out (s : Stp K π H0 H1 H0' H2) {a : Addr} (h0 : H0 a = none) (h1 : H1 a ≠ none) : H0' a = none := by
  apply Classical.byContradiction
  intro hn
  rcases s.gr a hn with z | z
  · exact z h0
  · exact h1 z
theorem Stp.trans (a : Stp K π H0 H1 H0' H2) (b : Stp K π H0' H2 H0'' H3) (o : Okk K π H0 H1) : Stp K π H0 H1 H0'' H3 := by
  refine ⟨a.ex.trans b.ex, fun x h => ?_, b.ex2, a.off.trans b.off, b.pen⟩
  rcases b.gr x h with z | z
  · exact a.gr x z
  · cases e : H1 x with
    | none => exact .inr rfl
    | some ob =>
      by_cases hp : ∃ q, π = some q ∧ x = q.p
      · obtain ⟨q, hq, rfl⟩ := hp
        exact absurd z (a.pen q hq).some
      · rw [a.off x ob (fun q hq ex => hp ⟨q, hq, ex⟩) e] at z
        cases z
/-- a new object joins the core -/
theorem Okk.new (o : Okk K π H0 H1) {p : Addr} {ob : HO} (hp : H1 p = none) (e : Ex H1 H2) (h2 : H2 p = some ob) : Stp K π H0 H1 (upd H0 p ob) H2 := by
  have h0 : H0 p = none := fresh_back o.ex hp
  refine ⟨Ex.new h0, fun a ha => ?_, fun a u ha => ?_, Off.of e, fun q hq => (o.pen q hq).2.ex e⟩
  · by_cases ea : a = p
    · subst ea
      exact .inr hp
    · rw [upd_ne ea] at ha
      exact .inl ha
  · by_cases ea : a = p
    · subst ea
      rw [upd_same] at ha
      cases ha
      exact h2
    · rw [upd_ne ea] at ha
      exact e _ _ (o.ex _ _ ha)
theorem Okk.more (o : Okk K π H0 H1) (e : Ex H1 H2) : Stp K π H0 H1 H0 H2 :=
  ⟨Ex.refl _, fun a h => .inl h, o.ex.trans e, Off.of e, fun p q => (o.pen p q).2.ex e⟩

mutual
theorem dp_ex (e : Ex H0 H1) : ∀ {d : PyData} {v : V}, Dp K H0 v d → Dp K H1 v d
  | .none, _, h => by cases h; exact .non
  | .bool _, _, h => by cases h; exact .bl _
  | .int _, _, h => by cases h; exact .int _
  | .str _, _, h => by cases h; exact .str _
  | .list _, _, h => by
    cases h with
    | lst h1 h2 => exact .lst (ex_l e h1) (dps_ex e h2)
  | .tuple _, _, h => by
    cases h with
    | tup h1 h2 => exact .tup (ex_t e h1) (dps_ex e h2)
  | .dict _, _, h => by cases h
theorem dps_ex (e : Ex H0 H1) : ∀ {ds : List PyData} {vs : List V}, DpAll K H0 vs ds → DpAll K H1 vs ds
  | [], _, h => by cases h; exact .nil
  | _ :: _, _, h => by
    cases h with
    | cons h1 h2 => exact .cons (dp_ex e h1) (dps_ex e h2)
end

/-! ### what a reading evaluates to, as data -/
abbrev DP := PyData → Prop
def PostV (K : PySem.W.Frag) (π : Option Pn) (H0 H1 : Hp) (Φ : DP) (Q : VK) : Prop := ∀ v d H0' H2, Φ d → Stp K π H0 H1 H0' H2 → Dp K H0' v d → Q v H2
def EvD (K : PySem.W.Frag) (π : Option Pn) (te : TE) (σ : L2.St) (H0 : Hp) (Φ : DP) : Prop := ∀ H1, Okk K π H0 H1 → ∀ Q, PostV K π H0 H1 Φ Q → te σ H1 Q
def EvB (K : PySem.W.Frag) (π : Option Pn) (tt : TT) (σ : L2.St) (H0 : Hp) (Φ : Bool → Prop) : Prop := ∀ H1, Okk K π H0 H1 → ∀ Q : Bool → Hp → Prop, (∀ b H0' H2, Φ b → Stp K π H0 H1 H0' H2 → Q b H2) → tt σ H1 Q
def EvL (K : PySem.W.Frag) (π : Option Pn) (ta : TA) (σ : L2.St) (H0 : Hp) (Φ : List PyData → Prop) : Prop :=
  ∀ H1, Okk K π H0 H1 → ∀ Q : List V → Hp → Prop, (∀ vs ds H0' H2, Φ ds → Stp K π H0 H1 H0' H2 → DpAll K H0' vs ds → Q vs H2) → ta σ H1 Q
def EvO (K : PySem.W.Frag) (π : Option Pn) (to : TO) (σ : L2.St) (H0 : Hp) (o : Option Int) : Prop :=
  ∀ H1, Okk K π H0 H1 → ∀ Q : Option Int → Hp → Prop, (∀ H0' H2, Stp K π H0 H1 H0' H2 → Q o H2) → to σ H1 Q

/-- two cores of one heap joined -/
def joined (H H' : Hp) : Hp := fun a => match H a with
  | some o => some o
  | none => H' a
theorem joined_l (a : Ex H0 H2) : Ex H0 (joined H0 H0') := fun x o h => by
  unfold joined
  rw [h]
theorem joined_r (a : Ex H0 H2) (b : Ex H0' H2) : Ex H0' (joined H0 H0') := fun x o h => by
  unfold joined
  cases e : H0 x with
  | none => exact h
  | some u =>
    have e1 := a _ _ e
    rw [b _ _ h] at e1
    exact e1.symm
theorem joined_ex (a : Ex H0 H2) (b : Ex H0' H2) : Ex (joined H0 H0') H2 := fun x o h => by
  unfold joined at h
  cases e : H0 x with
  | none =>
    rw [e] at h
    exact b _ _ h
  | some u =>
    rw [e] at h
    exact a _ _ (e.trans h)
theorem okk_less (e : Ex H0 H0') (o : Okk K π H0' H1) : Okk K π H0 H1 := ⟨e.trans o.ex, fun p h => ⟨by
  obtain ⟨h1, _⟩ := o.pen p h
  exact fresh_back e h1, (o.pen p h).2⟩⟩
/-- what was done from a smaller core is done from a greater one -/
theorem stp_more (e : Ex H0 H0') (o : Okk K π H0' H1) (s : Stp K π H0 H1 H0'' H2) : ∃ N, Ex H0'' N ∧ Stp K π H0' H1 N H2 := by
  have e' : Ex H0' H2 := fun x u h => s.off x u (fun q hq ex => by
    subst ex
    rw [(o.pen q hq).1] at h
    cases h) (o.ex _ _ h)
  refine ⟨joined H0' H0'', joined_r e' s.ex2, joined_l e', fun a ha => ?_, joined_ex e' s.ex2, s.off, s.pen⟩
  unfold joined at ha
  cases q : H0' a with
  | some u => exact .inl (fun z => by cases z)
  | none =>
    rw [q] at ha
    rcases s.gr a ha with z | z
    · cases q0 : H0 a with
      | none => exact absurd q0 z
      | some u =>
        rw [e _ _ q0] at q
        cases q
    · exact .inr z
end

section
variable {K : PySem.W.Frag} {π : Option Pn} {σ : L2.St} {H0 H0' H1 : Hp} {ta tb te : TE} {tt tu : TT} {tl : TA} {Φ Ψ : DP} {i : Nat}
theorem EvD.mono (e : Ex H0 H0') (h : EvD K π te σ H0 Φ) : EvD K π te σ H0' Φ := fun H1 o Q q => h H1 (okk_less e o) Q fun v d N H2 hd s hv => by
  obtain ⟨M, hM, s'⟩ := stp_more e o s
  exact q v d M H2 hd s' (dp_ex hM hv)
theorem EvB.mono {Φ : Bool → Prop} (e : Ex H0 H0') (h : EvB K π tt σ H0 Φ) : EvB K π tt σ H0' Φ := fun H1 o Q q => h H1 (okk_less e o) Q fun b N H2 hd s => by
  obtain ⟨M, hM, s'⟩ := stp_more e o s
  exact q b M H2 hd s'
theorem EvL.mono {Φ : List PyData → Prop} (e : Ex H0 H0') (h : EvL K π tl σ H0 Φ) : EvL K π tl σ H0' Φ := fun H1 o Q q => h H1 (okk_less e o) Q fun v d N H2 hd s hv => by
  obtain ⟨M, hM, s'⟩ := stp_more e o s
  exact q v d M H2 hd s' (dps_ex hM hv)
theorem EvO.mono {to : TO} {x : Option Int} (e : Ex H0 H0') (h : EvO K π to σ H0 x) : EvO K π to σ H0' x := fun H1 o Q q => h H1 (okk_less e o) Q fun N H2 s => by
  obtain ⟨M, hM, s'⟩ := stp_more e o s
  exact q M H2 s'
theorem EvD.imp (h : EvD K π te σ H0 Φ) (k : ∀ d, Φ d → Ψ d) : EvD K π te σ H0 Ψ := fun H1 o Q q => h H1 o Q fun v d N H2 hd => q v d N H2 (k d hd)
theorem EvB.imp {Φ Ψ : Bool → Prop} (h : EvB K π tt σ H0 Φ) (k : ∀ d, Φ d → Ψ d) : EvB K π tt σ H0 Ψ := fun H1 o Q q => h H1 o Q fun b N H2 hd => q b N H2 (k b hd)
theorem EvL.imp {Φ Ψ : List PyData → Prop} (h : EvL K π tl σ H0 Φ) (k : ∀ d, Φ d → Ψ d) : EvL K π tl σ H0 Ψ := fun H1 o Q q => h H1 o Q fun v d N H2 hd => q v d N H2 (k d hd)

theorem ed_var {v : V} {d : PyData} (h : σ[i]? = some (some v)) (hd : Dp K H0 v d) : EvD K π (tVar i) σ H0 (· = d) := fun H1 o Q q => ⟨v, h, q v d H0 H1 rfl o.stp hd⟩
theorem ed_c {v : V} {d : PyData} (hd : Dp K H0 v d) : EvD K π (tC v) σ H0 (· = d) := fun H1 o Q q => q v d H0 H1 rfl o.stp hd
theorem ed_i {i : Int} : EvD K π (tC (.int i)) σ H0 (· = .int i) := ed_c (.int i)
theorem ed_s {z : Str} : EvD K π (tC (.str z)) σ H0 (· = .str z) := ed_c (.str z)
theorem ed_n : EvD K π (tC .non) σ H0 (· = .none) := ed_c .non
theorem ed_bl {b : Bool} : EvD K π (tC (.bl b)) σ H0 (· = .bool b) := ed_c (.bl b)

/-- an operation by data -/
def OpD (K : PySem.W.Frag) (π : Option Pn) (r : R2) (a b : PyData) (Φ : DP) : Prop := ∀ x y H0 H1, Dp K H0 x a → Dp K H0 y b → Okk K π H0 H1 → ∀ Q, PostV K π H0 H1 Φ Q → r x y H1 Q
theorem ed_op {r : R2} {Φa Φb : DP} (ha : EvD K π ta σ H0 Φa) (hb : EvD K π tb σ H0 Φb) (hr : ∀ a b, Φa a → Φb b → OpD K π r a b Φ) : EvD K π (tOp r ta tb) σ H0 Φ := fun H1 o Q q =>
  ha H1 o _ fun x a N H2 pa s1 ka => hb.mono s1.ex H2 (s1.okk o) _ fun y b N2 H3 pb s2 kb =>
    hr a b pa pb x y N2 H3 (dp_ex s2.ex ka) kb (s2.okk (s1.okk o)) Q fun v d N3 H4 hd s3 hv => q v d N3 H4 hd ((s1.trans s2 o).trans s3 o) hv
theorem ed_op' {r : R2} {a b : PyData} (ha : EvD K π ta σ H0 (· = a)) (hb : EvD K π tb σ H0 (· = b)) (hr : OpD K π r a b Φ) : EvD K π (tOp r ta tb) σ H0 Φ :=
  ed_op ha hb fun _ _ e1 e2 => by rw [e1, e2]; exact hr
theorem dp_int {x : V} {i : Int} (h : Dp K H0 x (.int i)) : x = .int i := by cases h; rfl
theorem dp_bl {x : V} {i : Bool} (h : Dp K H0 x (.bool i)) : x = .bl i := by cases h; rfl
theorem dp_str {x : V} {i : Str} (h : Dp K H0 x (.str i)) : x = .str i := by cases h; rfl
theorem dp_non {x : V} (h : Dp K H0 x .none) : x = .non := by cases h; rfl
/-- an operation that hands back a scalar and changes nothing -/
theorem opd_val {r : R2} {a b d : PyData} {v : V} (hv : ∀ H, Dp K H v d) (h : ∀ x y H1 Q, Dp K H1 x a → Dp K H1 y b → Q v H1 → r x y H1 Q) : OpD K π r a b (· = d) := fun x y H0 H1 hx hy o Q q =>
  h x y H1 Q (dp_ex o.ex hx) (dp_ex o.ex hy) (q v d H0 H1 rfl o.stp (hv H0))
theorem od_I0 {g : Int → Int → V} {i j : Int} {d : PyData} (hv : ∀ H, Dp K H (g i j) d) : OpD K π (rI0 g) (.int i) (.int j) (· = d) :=
  opd_val hv fun x y H Q hx hy q => ⟨i, j, dp_int hx, dp_int hy, q⟩
theorem od_I {C : Int → Int → Prop} {g : Int → Int → V} {i j : Int} {d : PyData} (hc : C i j) (hv : ∀ H, Dp K H (g i j) d) : OpD K π (rI C g) (.int i) (.int j) (· = d) :=
  opd_val hv fun x y H Q hx hy q => ⟨i, j, dp_int hx, dp_int hy, hc, q⟩
theorem od_add {i j : Int} : OpD K π (rI0 fun i j => .int (i + j)) (.int i) (.int j) (· = .int (i + j)) := od_I0 fun _ => .int _
theorem od_sub {i j : Int} : OpD K π (rI0 fun i j => .int (i - j)) (.int i) (.int j) (· = .int (i - j)) := od_I0 fun _ => .int _
theorem od_mul {i j : Int} (h : CMul i j) : OpD K π (rI CMul fun i j => .int (i * j)) (.int i) (.int j) (· = .int (i * j)) := od_I h fun _ => .int _
theorem od_lt {i j : Int} : OpD K π (rI0 fun i j => .bl (decide (i < j))) (.int i) (.int j) (· = .bool (decide (i < j))) := od_I0 fun _ => .bl _
theorem od_le {i j : Int} : OpD K π (rI0 fun i j => .bl (decide (i ≤ j))) (.int i) (.int j) (· = .bool (decide (i ≤ j))) := od_I0 fun _ => .bl _
theorem od_gt {i j : Int} : OpD K π (rI0 fun i j => .bl (decide (j < i))) (.int i) (.int j) (· = .bool (decide (j < i))) := od_I0 fun _ => .bl _
theorem od_ge {i j : Int} : OpD K π (rI0 fun i j => .bl (decide (j ≤ i))) (.int i) (.int j) (· = .bool (decide (j ≤ i))) := od_I0 fun _ => .bl _
/-- texts compared -/
theorem od_neS {a b : Str} : OpD K π rNe (.str a) (.str b) (· = .bool (!decide (a = b))) := opd_val (v := .bl (!decide (a = b))) (fun _ => .bl _) fun x y H Q hx hy q => by
  rw [dp_str hx, dp_str hy]
  have e : (!decide (V.str a = V.str b)) = (!decide (a = b)) := by
    by_cases h : a = b
    · subst h; simp
    · simp [h]
  exact ⟨rfl, by rw [e]; exact q⟩
theorem od_eqS {a b : Str} : OpD K π rEq (.str a) (.str b) (· = .bool (decide (a = b))) := opd_val (v := .bl (decide (a = b))) (fun _ => .bl _) fun x y H Q hx hy q => by
  rw [dp_str hx, dp_str hy]
  have e : (decide (V.str a = V.str b)) = (decide (a = b)) := by
    by_cases h : a = b
    · subst h; simp
    · simp [h]
  exact ⟨rfl, by rw [e]; exact q⟩
theorem od_eqI {a b : Int} : OpD K π rEq (.int a) (.int b) (· = .bool (decide (a = b))) := opd_val (v := .bl (decide (a = b))) (fun _ => .bl _) fun x y H Q hx hy q => by
  rw [dp_int hx, dp_int hy]
  have e : (decide (V.int a = V.int b)) = (decide (a = b)) := by
    by_cases h : a = b
    · subst h; simp
    · simp [h]
  exact ⟨rfl, by rw [e]; exact q⟩
/-- data compared at any depth -/
theorem od_eqD {a b : PyData} (ha : SeqAt.shaped a = true) (hb : SeqAt.shaped b = true) : OpD K π (rEqD K) a b (· = .bool (PyData.eqv a b)) :=
  opd_val (v := .bl (PyData.eqv a b)) (fun _ => .bl _) fun x y H Q hx hy q => ⟨a, b, hx, hy, ha, hb, q⟩
theorem od_neD {a b : PyData} (ha : SeqAt.shaped a = true) (hb : SeqAt.shaped b = true) : OpD K π (rNeD K) a b (· = .bool (!PyData.eqv a b)) :=
  opd_val (v := .bl (!PyData.eqv a b)) (fun _ => .bl _) fun x y H Q hx hy q => ⟨a, b, hx, hy, ha, hb, q⟩

/-! ### arguments, displays -/
theorem el_nil : EvL K π tNil σ H0 (· = []) := fun H1 o Q q => q [] [] H0 H1 rfl o.stp .nil
theorem el_cons {Φl Ψl : List PyData → Prop} (h : EvD K π te σ H0 Φ) (ht : EvL K π tl σ H0 Φl) (k : ∀ d ds, Φ d → Φl ds → Ψl (d :: ds)) : EvL K π (tCons te tl) σ H0 Ψl := fun H1 o Q q =>
  h H1 o _ fun x a N H2 pa s1 ka => ht.mono s1.ex H2 (s1.okk o) _ fun vs ds N2 H3 pb s2 kb => q _ _ N2 H3 (k a ds pa pb) (s1.trans s2 o) (.cons (dp_ex s2.ex ka) kb)
theorem el_c {d : PyData} {ds : List PyData} (h : EvD K π te σ H0 (· = d)) (ht : EvL K π tl σ H0 (· = ds)) : EvL K π (tCons te tl) σ H0 (· = d :: ds) := el_cons h ht fun _ _ e1 e2 => by rw [e1, e2]
theorem dps_len : ∀ {ds : List PyData} {vs : List V}, DpAll K H0 vs ds → vs.length = ds.length
  | [], _, h => by cases h; rfl
  | _ :: _, _, h => by
    cases h with
    | cons h1 h2 => rw [List.length_cons, List.length_cons, dps_len h2]
theorem ed_tup {Φl : List PyData → Prop} (h : EvL K π tl σ H0 Φl) (hz : ∀ ds, Φl ds → ds.length ≤ 100000) (k : ∀ ds, Φl ds → Φ (.tuple ds)) : EvD K π (tTup tl) σ H0 Φ := fun H1 o Q q =>
  h H1 o _ fun vs ds N H2 pd s1 kd => ⟨Evl.sz_of (by rw [dps_len kd]; exact hz ds pd), fun p hp => by
    have s2 : Stp K π N H2 (upd N p (.tup vs)) (upd H2 p (.tup vs)) := (s1.okk o).new hp (Ex.new hp) upd_same
    exact q _ (.tuple ds) _ _ (k ds pd) (s1.trans s2 o) (.tup (st_of upd_same) (dps_ex s2.ex kd))⟩
theorem ed_t {ds : List PyData} (h : EvL K π tl σ H0 (· = ds)) (hz : ds.length ≤ 100000 := by first | decide | (simp only [List.length_cons, List.length_nil]; decide)) : EvD K π (tTup tl) σ H0 (· = .tuple ds) := ed_tup h (fun _ e => by rw [e]; exact hz) fun _ e => by rw [e]
theorem ed_lst {Φl : List PyData → Prop} (h : EvL K π tl σ H0 Φl) (hz : ∀ ds, Φl ds → ds.length ≤ 100000) (k : ∀ ds, Φl ds → Φ (.list ds)) : EvD K π (tLst tl) σ H0 Φ := fun H1 o Q q =>
  h H1 o _ fun vs ds N H2 pd s1 kd => ⟨Evl.sz_of (by rw [dps_len kd]; exact hz ds pd), fun p hp => by
    have s2 : Stp K π N H2 (upd N p (.lst vs)) (upd H2 p (.lst vs)) := (s1.okk o).new hp (Ex.new hp) upd_same
    exact q _ (.list ds) _ _ (k ds pd) (s1.trans s2 o) (.lst (sq_of upd_same) (dps_ex s2.ex kd))⟩
theorem ed_l {ds : List PyData} (h : EvL K π tl σ H0 (· = ds)) (hz : ds.length ≤ 100000 := by first | decide | (simp only [List.length_cons, List.length_nil]; decide)) : EvD K π (tLst tl) σ H0 (· = .list ds) := ed_lst h (fun _ e => by rw [e]; exact hz) fun _ e => by rw [e]

/-! ### tests -/
theorem eb_test {Φb : Bool → Prop} (h : EvD K π te σ H0 Φ) (k : ∀ d, Φ d → ∃ b, d = .bool b ∧ Φb b) : EvB K π (tTest te) σ H0 Φb := fun H1 o Q q => h H1 o _ fun v d N H2 hd s kd => by
  obtain ⟨b, rfl, hb⟩ := k d hd
  exact ⟨b, dp_bl kd, q b N H2 hb s⟩
theorem eb_B {Φb : Bool → Prop} (h : EvD K π te σ H0 Φ) (k : ∀ d, Φ d → ∃ b, d = .bool b ∧ Φb b) : EvB K π (tB te) σ H0 Φb := fun H1 o Q q => h H1 o _ fun v d N H2 hd s kd => by
  obtain ⟨b, rfl, hb⟩ := k d hd
  exact ⟨b, dp_bl kd, q b N H2 hb s⟩
theorem eb_t {b : Bool} (h : EvD K π te σ H0 (· = .bool b)) : EvB K π (tTest te) σ H0 (· = b) := eb_test h fun d e => ⟨b, e, rfl⟩
theorem eb_b {b : Bool} (h : EvD K π te σ H0 (· = .bool b)) : EvB K π (tB te) σ H0 (· = b) := eb_B h fun d e => ⟨b, e, rfl⟩
theorem eb_yes : EvB K π tYes σ H0 (· = true) := fun H1 o Q q => q true H0 H1 rfl o.stp
theorem eb_and {Φa Φb Φc : Bool → Prop} (h1 : EvB K π tt σ H0 Φa) (h2 : Φa true → EvB K π tu σ H0 Φb) (k1 : Φa true → ∀ b, Φb b → Φc b) (k0 : Φa false → Φc false) : EvB K π (tAnd tt tu) σ H0 Φc := fun H1 o Q q => h1 H1 o _ fun a N H2 pa s => by
  cases a with
  | true => exact (h2 pa).mono s.ex H2 (s.okk o) _ fun b N2 H3 pb s2 => q b N2 H3 (k1 pa b pb) (s.trans s2 o)
  | false => exact q false N H2 (k0 pa) s
theorem eb_or {Φa Φb Φc : Bool → Prop} (h1 : EvB K π tt σ H0 Φa) (h2 : Φa false → EvB K π tu σ H0 Φb) (k1 : Φa false → ∀ b, Φb b → Φc b) (k0 : Φa true → Φc true) : EvB K π (tOr tt tu) σ H0 Φc := fun H1 o Q q => h1 H1 o _ fun a N H2 pa s => by
  cases a with
  | false => exact (h2 pa).mono s.ex H2 (s.okk o) _ fun b N2 H3 pb s2 => q b N2 H3 (k1 pa b pb) (s.trans s2 o)
  | true => exact q true N H2 (k0 pa) s
theorem eb_not {Φa : Bool → Prop} (h1 : EvB K π tt σ H0 Φa) : EvB K π (tNot tt) σ H0 (fun b => Φa (!b)) := fun H1 o Q q => h1 H1 o _ fun a N H2 pa s => q (!a) N H2 (by show Φa (!(!a)); rw [Bool.not_not]; exact pa) s
theorem eb_and' {a b : Bool} (h1 : EvB K π tt σ H0 (· = a)) (h2 : a = true → EvB K π tu σ H0 (· = b)) : EvB K π (tAnd tt tu) σ H0 (· = (a && b)) :=
  eb_and h1 (fun e => h2 e.symm) (fun e c ec => by rw [ec, ← e]; rfl) fun e => by rw [← e]; rfl
theorem eb_or' {a b : Bool} (h1 : EvB K π tt σ H0 (· = a)) (h2 : a = false → EvB K π tu σ H0 (· = b)) : EvB K π (tOr tt tu) σ H0 (· = (a || b)) :=
  eb_or h1 (fun e => h2 e.symm) (fun e c ec => by rw [ec, ← e]; rfl) fun e => by rw [← e]; rfl
theorem eb_not' {a : Bool} (h1 : EvB K π tt σ H0 (· = a)) : EvB K π (tNot tt) σ H0 (· = !a) := (eb_not h1).imp fun b e => by rw [← e, Bool.not_not]
theorem ed_if {Φb : Bool → Prop} (h : EvB K π tt σ H0 Φb) (h1 : Φb true → EvD K π ta σ H0 Φ) (h2 : Φb false → EvD K π tb σ H0 Φ) : EvD K π (tIf tt ta tb) σ H0 Φ := fun H1 o Q q => h H1 o _ fun b N H2 pb s => by
  cases b with
  | true => exact (h1 pb).mono s.ex H2 (s.okk o) _ fun v d N2 H3 pd s2 kd => q v d N2 H3 pd (s.trans s2 o) kd
  | false => exact (h2 pb).mono s.ex H2 (s.okk o) _ fun v d N2 H3 pd s2 kd => q v d N2 H3 pd (s.trans s2 o) kd
theorem ed_andV {a b : Bool} (h1 : EvD K π ta σ H0 (· = .bool a)) (h2 : a = true → EvD K π tb σ H0 (· = .bool b)) : EvD K π (tAndV ta tb) σ H0 (· = .bool (a && b)) := fun H1 o Q q => h1 H1 o _ fun v d N H2 pd s kd => by
  subst pd
  refine ⟨a, dp_bl kd, ?_⟩
  cases a with
  | true => exact (h2 rfl).mono s.ex H2 (s.okk o) _ fun v d N2 H3 pd s2 kd => q v d N2 H3 pd (s.trans s2 o) kd
  | false => exact q (.bl false) _ N H2 rfl s (.bl false)
theorem ed_orV {a b : Bool} (h1 : EvD K π ta σ H0 (· = .bool a)) (h2 : a = false → EvD K π tb σ H0 (· = .bool b)) : EvD K π (tOrV ta tb) σ H0 (· = .bool (a || b)) := fun H1 o Q q => h1 H1 o _ fun v d N H2 pd s kd => by
  subst pd
  refine ⟨a, dp_bl kd, ?_⟩
  cases a with
  | false => exact (h2 rfl).mono s.ex H2 (s.okk o) _ fun v d N2 H3 pd s2 kd => q v d N2 H3 pd (s.trans s2 o) kd
  | true => exact q (.bl true) _ N H2 rfl s (.bl true)
theorem ed_notV {a : Bool} (h1 : EvD K π ta σ H0 (· = .bool a)) : EvD K π (tNotV ta) σ H0 (· = .bool (!a)) := fun H1 o Q q => h1 H1 o _ fun v d N H2 pd s kd => by
  subst pd
  exact ⟨a, dp_bl kd, q (.bl (!a)) _ N H2 rfl s (.bl (!a))⟩
def notNone : PyData → Bool
  | .none => false
  | _ => true
theorem ed_notN (h1 : EvD K π ta σ H0 Φ) : EvD K π (tNotN ta) σ H0 (fun e => ∃ d, Φ d ∧ e = .bool (notNone d)) := fun H1 o Q q => h1 H1 o _ fun v d N H2 pd s kd => by
  refine q _ _ N H2 ⟨d, pd, rfl⟩ s ?_
  cases kd <;> exact .bl _
end
end Dl

set_option maxRecDepth 100000
set_option maxHeartbeats 4000000
/-! tuples further: t[::-1], t * k for every small k -/
namespace Dt
open PySem PySem.Spec PyProof.Rows L2
section
variable {prog : Program} {w : World} {A : Around} {E : Value → Shared → Prop} {s : Shared}
theorem rev_bounds (n : Nat) : Builtin.Slice.sliceAdjust none none (-1) (n : Int) = ((n : Int) - 1, -1) := by
  unfold Builtin.Slice.sliceAdjust
  simp
theorem rev_places (n : Nat) : Builtin.Slice.slicePlaces ((n : Int) - 1) (-1) (-1) = n := by
  unfold Builtin.Slice.slicePlaces
  show (if (n : Int) - 1 > -1 then ((n : Int) - 1 - -1 - 1) / 1 + 1 else 0).toNat = n
  rw [Int.ediv_one]
  split <;> omega
theorem rev_pick (xs : Array Value) : ((List.range xs.size).filterMap fun (k : Nat) => xs[((xs.size : Int) - 1 + (k : Int) * (-1)).toNat]?).toArray = xs.toList.reverse.toArray := by
  have e1 : (List.range xs.size).filterMap (fun (k : Nat) => xs[((xs.size : Int) - 1 + (k : Int) * (-1)).toNat]?) = ((List.range xs.size).map fun k => xs.size - 1 - k).filterMap (xs[·]?) := by
    rw [List.filterMap_map]
    refine congrArg (fun f => List.filterMap f (List.range xs.size)) (funext fun k => ?_)
    have : ((xs.size : Int) - 1 + (k : Int) * (-1)).toNat = xs.size - 1 - k := by omega
    rw [this]
    rfl
  rw [e1, PySem.W.krv_range, List.filterMap_reverse, PySem.W.krv_all]
theorem getItem_rev {t sl : Addr} {items : Array Value} {vs : Value} {Q : Value → Shared → Prop} (ht : IsTup s.heap t items) (hs : s.heap.IsSliceOf sl .none .none vs) (pv : IsPart vs (some (-1))) (hz : items.size ≤ sizeLine)
    (h : Q (.ref s.heap.objs.size) { s with heap := s.heap.push { cls := .type "tuple", data := .seq items.toList.reverse.toArray } }) : wpAny (model prog w) A (getItem (.ref t) (.ref sl)) Q E s := by
  have hok : sizeOk (.seq items.toList.reverse.toArray) := by
    show items.toList.reverse.toArray.size ≤ sizeLine
    rw [List.size_toArray, List.length_reverse, Array.length_toList]
    exact hz
  obtain ⟨os, hos, hcs, hds⟩ := id hs
  have hTs : s.TypeIs (.ref sl) "slice" := ⟨os, hos, hcs⟩
  unfold getItem
  try with_reducible refine wpAny_holding ?_
  first | refine wpAny_bind (wpAny_pure ?_) | skip
  apply wpAny_bind
  apply wpAny_sequenceKey ht.typeIs (by decide)
  apply wpAny_bind
  apply wpAny_callSpecial?_slot (name := Str.ofString "__getitem__") ht.typeIs PyProof.Rows.slot_tuple_getitem
  refine wpAny_call_entry PyProof.Rows.slot_tuple_getitem ht.typeIs entry_tuple_getitem ?_ (args_tuple_getitem _ _)
  show wpAny _ _ (Builtin.Tuple.tupleItemsOf (.ref t) >>= _) _ _ s
  apply wpAny_bind
  apply tupleItemsOf_ ht
  apply wpAny_bind
  apply wpAny_typeOf hTs
  rw [if_pos (by decide)]
  apply wpAny_bind
  show wpAny _ _ (Builtin.Slice.sliceApplied (.ref sl) (pure (items.size : Int))) _ _ s
  unfold Builtin.Slice.sliceApplied Builtin.Slice.sliceFields
  refine wpAny_bind (wpAny_bind (wpAny_field hos hds (x := .none) rfl (wpAny_bind (wpAny_field hos hds (x := .none) rfl (wpAny_bind (wpAny_field hos hds (x := vs) rfl (wpAny_pure ?_)))))))
  apply wpAny_bind
  apply HT.slicePart_ pv
  show wpAny _ _ (if ((-1 : Int) == 0) = true then _ else _) _ _ s
  rw [if_neg (by decide)]
  apply wpAny_bind
  apply HT.slicePart_ .none
  apply wpAny_bind
  apply HT.slicePart_ .none
  apply wpAny_bind
  apply wpAny_pure
  show wpAny _ _ (match Builtin.Slice.sliceAdjust none none (-1) (items.size : Int) with | (lo, hi) => pure (lo, (-1 : Int), Builtin.Slice.slicePlaces lo hi (-1))) _ _ s
  rw [rev_bounds]
  show wpAny _ _ (pure ((items.size : Int) - 1, (-1 : Int), Builtin.Slice.slicePlaces ((items.size : Int) - 1) (-1) (-1))) _ _ s
  rw [rev_places]
  apply wpAny_pure
  show wpAny _ _ (if (((items.size : Int) - 1) == 0 && (-1 : Int) == 1 && items.size == items.size) = true then _ else _) _ _ s
  rw [if_neg (by simp), rev_pick]
  first
    | exact wpAny_bind (m := Builtin.Tuple.tupleExact _) (wpAny_newObj_type (wpAny_pure ⟨_, rfl, wpAny_pure h⟩) hok)
    | exact wpAny_bind (m := Builtin.Tuple.tupleExact _) (wpAny_newObj_type (wpAny_bind (wpAny_pure (wpAny_pure ⟨_, rfl, wpAny_pure h⟩))) hok)
    | exact wpAny_bind (wpAny_bind (m := Builtin.Tuple.tupleExact _) (wpAny_newObj_type (wpAny_pure (wpAny_pure ⟨_, rfl, wpAny_pure h⟩)) hok))
    | exact wpAny_bind (wpAny_bind (m := Builtin.Tuple.tupleExact _) (wpAny_newObj_type (wpAny_pure ⟨_, rfl, wpAny_pure h⟩) hok))
end
section
variable {X : Cx}
def tRevT (K : PySem.W.Frag) (te : TE) : TE := fun σ H Q => te σ H fun x H1 => ∃ a xs, x = .ref a ∧ SqT K H1 a xs ∧ ∀ p, H1 p = none → Q (.ref p) (upd H1 p (.tup xs.reverse))
theorem pe_revT {e : Expr} {te : TE} {k : Nat} {p1 p2 p3 pos : Pos} (he : PE X e te) : PE X (.Subscript e (.Slice none none (some (.UnaryOp .USub (.Constant (.int 1) k p1) p2)) p3) pos) (tRevT X.K te) := by
  constructor
  intro pins s σ H Q I h
  refine Subscript_ (thn (he.run pins s σ H _ I h) ?_)
  rintro v s1 ⟨x, H1, I1, r1, a, xs, rfl, hx, q⟩
  cases r1
  have hst : PO X (some (.UnaryOp .USub (.Constant (.int 1) k p1) p2)) (tPart (tUn (rU fun i => .int (-i)) (tC (.int 1)))) := po_some (pe_un un_neg pe_int)
  refine wpAny_Slice (thn (po_none.run pins s1 σ H1 (fun o H2 => o = none ∧ H2 = H1) I1 ⟨rfl, rfl⟩) ?_)
  rintro vl s2 ⟨l, H2, I2, pl, rfl, rfl⟩
  refine thn (po_none.run pins s2 σ H2 (fun o H3 => o = none ∧ H3 = H2) I2 ⟨rfl, rfl⟩) ?_
  rintro vu s3 ⟨u, H3, I3, pu, rfl, rfl⟩
  refine thn (hst.run pins s3 σ H3 (fun o H4 => o = some (-1) ∧ H4 = H3) I3 ⟨1, rfl, -1, rfl, rfl, rfl⟩) ?_
  rintro vs s4 ⟨o, H4, I4, ps, rfl, rfl⟩
  cases pl
  cases pu
  have I5 : Inv X pins σ H4 { s4 with heap := s4.heap.push { cls := .type "slice", data := .fields #[.none, .none, vs] } } := I4.kept (t' := s4.toks) fun b ob q => Heap.get?_push_of_some _ q
  obtain ⟨its, r, ht, hz⟩ := I5.tuple hx
  show wpAny (model X.prog X.w) X.A (subscriptTail e (.Slice none none (some (.UnaryOp .USub (.Constant (.int 1) k p1) p2)) p3) (.ref a) (.ref s4.heap.objs.size)) (EP X pins σ Q) X.xe { s4 with heap := s4.heap.push { cls := .type "slice", data := .fields #[.none, .none, vs] } }
  have hlen : its.toArray.size = xs.length := by
    rw [List.size_toArray]
    exact r.length.symm
  apply tail_any (ops := [.ref a, .ref s4.heap.objs.size]) ht.typeIs PyProof.Rows.slot_tuple_getitem.lookup _ (by with_unfolding_all rfl)
  apply getItem_rev ht (Heap.IsSliceOf.new _ .none .none vs) ps (by rw [hlen]; exact hz)
  refine ⟨.ref _, _, I5.laid (t' := s4.toks) (o := .tup xs.reverse) (fun b ob q => Heap.get?_push_of_some _ q) (Nat.le_refl _) ?_, rfl, q _ (I5.hok.fresh (Nat.le_refl _))⟩
  exact ⟨by rw [List.length_reverse]; exact hz, _, r.reverse, IsTup.new _ _⟩

/-! ### t * k, k from 0 on -/
theorem mul_same (l : Addr) (items : Array Value) (n : Nat) (dd : Option Addr) (sl : Array (Option Value)) (x : Int) (u : Tok) (c0 : (decide (x < -(2 ^ 63)) || decide (x ≥ 2 ^ 63)) = false) (c1 : (items.isEmpty || x == 1) = true) :
    Meets (Builtin.«tuple.__mul__» ⟨[.ref l, .int x u], []⟩) (fun _ R s => s.heap.get? l = some { cls := .type "tuple", dict := dd, data := .seq items n, slots := sl } ∧ R (.ok (.ret (Value.ref l))) s) :=
  .of_wp fun prog w A R s h => by
    obtain ⟨hp, g, d, tk, os⟩ := s
    obtain ⟨hl, h⟩ := h
    have f1 := AutoSeq1.idx_int
    wp_walk using wpAny_loadPart' hl
    repeat (first
      | (refine wpAny_ite_false (decide_eq_false (by rw [c0]; exact Bool.false_ne_true)) ?_; wp_walk using wpAny_loadPart' hl)
      | (refine wpAny_ite_true (decide_eq_true c1) ?_; wp_walk using wpAny_loadPart' hl))
    exact ⟨_, rfl, h⟩
theorem mul_none (l : Addr) (items : Array Value) (n : Nat) (dd : Option Addr) (sl : Array (Option Value)) (x : Int) (u : Tok) (c0 : (decide (x < -(2 ^ 63)) || decide (x ≥ 2 ^ 63)) = false) (c1 : (items.isEmpty || x == 1) = false)
    (c2 : (decide (x ≤ 0) || items.isEmpty) = true) :
    Meets (Builtin.«tuple.__mul__» ⟨[.ref l, .int x u], []⟩) (fun _ R s => s.heap.get? l = some { cls := .type "tuple", dict := dd, data := .seq items n, slots := sl } ∧
      R (.ok (.ret (Value.ref s.heap.objs.size))) { s with heap := s.heap.push { cls := Value.type "tuple", data := Data.seq #[] }, toks := s.toks }) :=
  .of_wp fun prog w A R s h => by
    obtain ⟨hp, g, d, tk, os⟩ := s
    obtain ⟨hl, h⟩ := h
    have f1 := AutoSeq1.idx_int
    wp_walk using wpAny_loadPart' hl
    repeat (first
      | (refine wpAny_ite_false (decide_eq_false (by rw [c0]; exact Bool.false_ne_true)) ?_; wp_walk using wpAny_loadPart' hl)
      | (refine wpAny_ite_false (decide_eq_false (by rw [c1]; exact Bool.false_ne_true)) ?_; wp_walk using wpAny_loadPart' hl)
      | (refine wpAny_ite_true (decide_eq_true c2) ?_; wp_walk using wpAny_loadPart' hl)
      | (refine wpAny_ite_false (decide_eq_false (Nat.not_lt.mpr (Nat.zero_le _))) ?_; wp_walk using wpAny_loadPart' hl))
    exact ⟨_, rfl, h⟩
/-- t * k for every k from 0 to 1000 -/
def rRepA (K : PySem.W.Frag) : R2 := fun x y H Q => ∃ l k xs, x = .ref l ∧ y = .int k ∧ SqT K H l xs ∧ 0 ≤ k ∧ k ≤ 1000 ∧ xs.length ≤ 1000 ∧
  ((xs = [] ∨ k = 1) → Q (.ref l) H) ∧ (¬ (xs = [] ∨ k = 1) → ∀ p, H p = none → Q (.ref p) (upd H p (.tup (List.replicate k.toNat xs).flatten)))
theorem op_repA : OpR X (binaryOp .Mult) (rRepA X.K) := by
  intro pins s σ H x y v u Q I rx ry h
  obtain ⟨l, k, xs, rfl, rfl, hT, h0, h1, hz, q1, q2⟩ := h
  by_cases hc : xs = [] ∨ k = 1
  · cases rx
    obtain ⟨t, rfl⟩ := ry
    obtain ⟨its, r, ⟨⟨cls, dd, data, sl⟩, ho, hcl, n, hd⟩, hs⟩ := I.tuple hT
    simp only at hcl hd
    subst hcl hd
    have hle : its.length = xs.length := r.length.symm
    have c0 : (decide (k < -(2 ^ 63)) || decide (k ≥ 2 ^ 63)) = false := by
      rw [decide_eq_false (by omega), decide_eq_false (by omega)]
      rfl
    have c1 : (its.toArray.isEmpty || k == 1) = true := by
      rcases hc with e | e
      · rw [e] at hle
        have e2 := List.eq_nil_of_length_eq_zero hle
        subst e2
        rfl
      · subst e
        rw [Bool.or_eq_true]
        exact .inr rfl
    refine wpAny_binaryOp_repeat_ref (T := "tuple") (U := "int") (by decide) ⟨_, ho, rfl⟩ (fun s' => typeIs_int s' k t) noFill_tuple_mul F.fills_int_mul F.slot_int_rmul repeat_tuple F.slot_int_index.lookup
      (call_meets F.slot_int_rmul (typeIs_int s k t) F.entry_int_rmul (F.args_int_rmul_2 _ _) (int_rmul_tuple k t l its.toArray n dd sl) ?_)
    refine ⟨ho, rfl, ⟨_, ho, rfl⟩, call_meets F.slot_tuple_mul ⟨_, ho, rfl⟩ F.entry_tuple_mul (F.args_tuple_mul_2 _ _) (mul_same l its.toArray n dd sl k t c0 c1) ⟨ho, ?_⟩⟩
    exact ⟨.ref l, H, I, rfl, q1 hc⟩
  · have hx : xs ≠ [] := fun e => hc (.inl e)
    have hk1 : k ≠ 1 := fun e => hc (.inr e)
    by_cases hk : 2 ≤ k
    · exact op_repT pins s σ H _ _ v u Q I rx ry ⟨l, k, xs, rfl, rfl, hT, hx, hk, h1, hz, q2 hc⟩
    · have e0 : k = 0 := by omega
      subst e0
      cases rx
      obtain ⟨t, rfl⟩ := ry
      obtain ⟨its, r, ⟨⟨cls, dd, data, sl⟩, ho, hcl, n, hd⟩, hs⟩ := I.tuple hT
      simp only at hcl hd
      subst hcl hd
      have hle : its.length = xs.length := r.length.symm
      have hne : its.toArray.isEmpty = false := by
        cases its with
        | nil => exact absurd (List.eq_nil_of_length_eq_zero hle.symm) hx
        | cons a b => rfl
      have c1 : (its.toArray.isEmpty || (0 : Int) == 1) = false := by
        rw [hne]
        rfl
      refine wpAny_binaryOp_repeat_ref (T := "tuple") (U := "int") (by decide) ⟨_, ho, rfl⟩ (fun s' => typeIs_int s' 0 t) noFill_tuple_mul F.fills_int_mul F.slot_int_rmul repeat_tuple F.slot_int_index.lookup
        (call_meets F.slot_int_rmul (typeIs_int s 0 t) F.entry_int_rmul (F.args_int_rmul_2 _ _) (int_rmul_tuple 0 t l its.toArray n dd sl) ?_)
      refine ⟨ho, rfl, ⟨_, ho, rfl⟩, call_meets F.slot_tuple_mul ⟨_, ho, rfl⟩ F.entry_tuple_mul (F.args_tuple_mul_2 _ _) (mul_none l its.toArray n dd sl 0 t rfl c1 rfl) ⟨ho, ?_⟩⟩
      refine ⟨.ref s.heap.objs.size, _, I.laid (t' := s.toks) (o := .tup []) (fun b ob q => Heap.get?_push_of_some _ q) (Nat.le_refl _) ?_, rfl, q2 hc _ (I.hok.fresh (Nat.le_refl _))⟩
      exact ⟨Nat.zero_le _, [], .nil, IsTup.new _ _⟩
end
end Dt

set_option maxRecDepth 100000
set_option maxHeartbeats 4000000
namespace Dl
open PySem PySem.Spec PyProof.Rows L2 Gd Dt
open Evl (Ex Ex.refl Ex.trans Ex.new ex_l ex_t sq_of st_of fresh_back)

section
variable {K : PySem.W.Frag} {π : Option Pn} {σ : L2.St} {H0 H0' H1 : Hp} {ta tb te : TE} {tt tu : TT} {tl : TA} {Φ Ψ : DP} {i : Nat}

/-! ### data by places -/
theorem dps_get : ∀ {ds : List PyData} {vs : List V} {i : Nat} {d : PyData}, DpAll K H0 vs ds → ds[i]? = some d → ∃ v, vs[i]? = some v ∧ Dp K H0 v d
  | [], _, _, _, _, e => by simp at e
  | _ :: _, _, 0, _, h, e => by
    cases h with
    | cons h1 h2 =>
      simp at e
      subst e
      exact ⟨_, rfl, h1⟩
  | _ :: _, _, i + 1, _, h, e => by
    cases h with
    | cons h1 h2 =>
      obtain ⟨v, a, b⟩ := dps_get (i := i) h2 (by simpa using e)
      exact ⟨v, by simpa using a, b⟩
theorem dps_app : ∀ {ds es : List PyData} {vs ws : List V}, DpAll K H0 vs ds → DpAll K H0 ws es → DpAll K H0 (vs ++ ws) (ds ++ es)
  | [], _, _, _, h, k => by cases h; exact k
  | _ :: _, _, _, _, h, k => by
    cases h with
    | cons h1 h2 => exact .cons h1 (dps_app h2 k)
theorem dps_take : ∀ {ds : List PyData} {vs : List V} (n : Nat), DpAll K H0 vs ds → DpAll K H0 (vs.take n) (ds.take n)
  | _, _, 0, _ => by simp; exact .nil
  | [], _, _ + 1, h => by cases h; exact .nil
  | _ :: _, _, n + 1, h => by
    cases h with
    | cons h1 h2 => exact .cons h1 (dps_take n h2)
theorem dps_drop : ∀ {ds : List PyData} {vs : List V} (n : Nat), DpAll K H0 vs ds → DpAll K H0 (vs.drop n) (ds.drop n)
  | _, _, 0, h => h
  | [], _, _ + 1, h => by cases h; exact .nil
  | _ :: _, _, n + 1, h => by
    cases h with
    | cons h1 h2 => exact dps_drop n h2
theorem dps_rev : ∀ {ds : List PyData} {vs : List V}, DpAll K H0 vs ds → DpAll K H0 vs.reverse ds.reverse
  | [], _, h => by cases h; exact .nil
  | _ :: _, _, h => by
    cases h with
    | cons h1 h2 =>
      rw [List.reverse_cons, List.reverse_cons]
      exact dps_app (dps_rev h2) (.cons h1 .nil)
theorem dps_rep {ds : List PyData} {vs : List V} (h : DpAll K H0 vs ds) : ∀ n : Nat, DpAll K H0 (List.replicate n vs).flatten (List.replicate n ds).flatten
  | 0 => .nil
  | n + 1 => by
    rw [List.replicate_succ, List.replicate_succ, List.flatten_cons, List.flatten_cons]
    exact dps_app h (dps_rep h n)
/-- what stands at an address as a tuple, a list -/
theorem dp_tup {x : V} {ds : List PyData} (h : Dp K H0 x (.tuple ds)) : ∃ a xs, x = .ref a ∧ SqT K H0 a xs ∧ DpAll K H0 xs ds := by
  cases h with
  | tup h1 h2 => exact ⟨_, _, rfl, h1, h2⟩
theorem dp_lst {x : V} {ds : List PyData} (h : Dp K H0 x (.list ds)) : ∃ a xs, x = .ref a ∧ SqL K H0 a xs ∧ DpAll K H0 xs ds := by
  cases h with
  | lst h1 h2 => exact ⟨_, _, rfl, h1, h2⟩

/-! ### subscripts, slices, sums, products of tuples -/
theorem od_ixT {ds : List PyData} {i : Int} {d : PyData} (h : atI ds i = some d) : OpD K π (rIxT K) (.tuple ds) (.int i) (· = d) := fun x y H0 H1 hx hy o Q q => by
  obtain ⟨a, xs, rfl, hs, hd⟩ := dp_tup hx
  rw [dp_int hy]
  have hl := dps_len hd
  unfold atI at h
  cases hj : ixN ds.length i with
  | none =>
    rw [hj] at h
    cases h
  | some j =>
    rw [hj] at h
    obtain ⟨v, e1, e2⟩ := dps_get hd (show ds[j]? = some d from h)
    exact ⟨a, xs, i, v, rfl, rfl, ex_t o.ex hs, by unfold atI; rw [hl, hj]; exact e1, q v d H0 H1 rfl o.stp e2⟩
theorem od_ixL {ds : List PyData} {i : Int} {d : PyData} (h : atI ds i = some d) : OpD K π (rIxL K) (.list ds) (.int i) (· = d) := fun x y H0 H1 hx hy o Q q => by
  obtain ⟨a, xs, rfl, hs, hd⟩ := dp_lst hx
  rw [dp_int hy]
  have hl := dps_len hd
  unfold atI at h
  cases hj : ixN ds.length i with
  | none =>
    rw [hj] at h
    cases h
  | some j =>
    rw [hj] at h
    obtain ⟨v, e1, e2⟩ := dps_get hd (show ds[j]? = some d from h)
    exact ⟨a, xs, i, v, rfl, rfl, ex_l o.ex hs, by unfold atI; rw [hl, hj]; exact e1, q v d H0 H1 rfl o.stp e2⟩
def cutD (ds : List PyData) (lo hi : Option Int) : List PyData := (ds.drop (HT.sIx ds.length 0 lo)).take (HT.sIx ds.length ds.length hi - HT.sIx ds.length 0 lo)
theorem dps_cut {ds : List PyData} {vs : List V} (lo hi : Option Int) (h : DpAll K H0 vs ds) : DpAll K H0 (cutV vs lo hi) (cutD ds lo hi) := by
  unfold cutV cutD
  rw [dps_len h]
  exact dps_take _ (dps_drop _ h)
theorem eo_no : EvO K π tNoPart σ H0 none := fun H1 o Q q => q H0 H1 o.stp
theorem eo_part {i : Int} (h : EvD K π te σ H0 (· = .int i)) : EvO K π (tPart te) σ H0 (some i) := fun H1 o Q q => h H1 o _ fun v d N H2 e s hv => by
  subst e
  exact ⟨i, dp_int hv, q N H2 s⟩
theorem ed_slT {tlo thi : TO} {lo hi : Option Int} {ds : List PyData} (h : EvD K π te σ H0 (· = .tuple ds)) (hl : EvO K π tlo σ H0 lo) (hu : EvO K π thi σ H0 hi) : EvD K π (tSl (rSlA K) te tlo thi) σ H0 (· = .tuple (cutD ds lo hi)) := fun H1 o Q q =>
  h H1 o _ fun v d N H2 e s hv => hl.mono s.ex H2 (s.okk o) _ fun N2 H3 s2 => hu.mono (s.ex.trans s2.ex) H3 (s2.okk (s.okk o)) _ fun N3 H4 s3 => by
    subst e
    have S := (s.trans s2 o).trans s3 o
    have o4 := S.okk o
    obtain ⟨a, xs, rfl, hs, hd⟩ := dp_tup (dp_ex (s2.ex.trans s3.ex) hv)
    refine ⟨a, xs, rfl, ex_t o4.ex hs, fun hw => ?_, fun hw p hp => ?_⟩
    · have e2 : cutD ds lo hi = ds := by
        unfold cutD
        rw [← dps_len hd, hw.1, hw.2, dps_len hd]
        simp
      exact q _ _ N3 H4 (by rw [e2]) S (.tup hs hd)
    · have s4 := o4.new hp (Ex.new hp) (upd_same (o := .tup (cutV xs lo hi)))
      exact q _ _ _ _ rfl (S.trans s4 o) (.tup (st_of upd_same) (dps_ex s4.ex (dps_cut lo hi hd)))
theorem ed_rev {ds : List PyData} (h : EvD K π te σ H0 (· = .tuple ds)) : EvD K π (tRevT K te) σ H0 (· = .tuple ds.reverse) := fun H1 o Q q => h H1 o _ fun v d N H2 e s hv => by
  subst e
  obtain ⟨a, xs, rfl, hs, hd⟩ := dp_tup hv
  refine ⟨a, xs, rfl, ex_t (s.okk o).ex hs, fun p hp => ?_⟩
  have s4 := (s.okk o).new hp (Ex.new hp) (upd_same (o := .tup xs.reverse))
  exact q _ _ _ _ rfl (s.trans s4 o) (.tup (st_of upd_same) (dps_ex s4.ex (dps_rev hd)))
theorem od_cat {ds es : List PyData} (hz : ds.length + es.length ≤ 100000) : OpD K π (rCatA K) (.tuple ds) (.tuple es) (· = .tuple (ds ++ es)) := fun x y H0 H1 hx hy o Q q => by
  obtain ⟨a, xs, rfl, hs, hd⟩ := dp_tup hx
  obtain ⟨b, ys, rfl, ht, he⟩ := dp_tup hy
  have l1 := dps_len hd
  have l2 := dps_len he
  refine ⟨a, b, xs, ys, rfl, rfl, ex_t o.ex hs, ex_t o.ex ht, Evl.sz_of (by omega), fun e => ?_, fun _ e => ?_, fun _ _ p hp => ?_⟩
  · subst e
    cases hd
    exact q _ _ H0 H1 rfl o.stp (.tup ht he)
  · subst e
    cases he
    exact q _ _ H0 H1 (by rw [List.append_nil]) o.stp (.tup hs hd)
  · have s4 := o.new hp (Ex.new hp) (upd_same (o := .tup (xs ++ ys)))
    exact q _ _ _ _ rfl s4 (.tup (st_of upd_same) (dps_ex s4.ex (dps_app hd he)))
theorem od_rep {ds : List PyData} {k : Int} (h0 : 0 ≤ k) (h1 : k ≤ 1000) (hz : ds.length ≤ 1000) : OpD K π (rRepA K) (.tuple ds) (.int k) (· = .tuple (List.replicate k.toNat ds).flatten) := fun x y H0 H1 hx hy o Q q => by
  obtain ⟨a, xs, rfl, hs, hd⟩ := dp_tup hx
  refine ⟨a, k, xs, rfl, dp_int hy, ex_t o.ex hs, h0, h1, by rw [dps_len hd]; exact hz, fun e => ?_, fun _ p hp => ?_⟩
  · refine q _ _ H0 H1 rfl o.stp ?_
    have e2 : (List.replicate k.toNat ds).flatten = ds := by
      rcases e with e | e
      · subst e
        cases hd
        simp
      · subst e
        simp
    rw [e2]
    exact .tup hs hd
  · have s4 := o.new hp (Ex.new hp) (upd_same (o := .tup (List.replicate k.toNat xs).flatten))
    exact q _ _ _ _ rfl s4 (.tup (st_of upd_same) (dps_ex s4.ex (dps_rep hd _)))

/-! ### calls of built-ins -/
/-- a built-in by data -/
def CbD (K : PySem.W.Frag) (π : Option Pn) (r : List V → Hp → VK → Prop) (ds : List PyData) (Φ : DP) : Prop := ∀ vs H0 H1, DpAll K H0 vs ds → Okk K π H0 H1 → ∀ Q, PostV K π H0 H1 Φ Q → r vs H1 Q
theorem ed_cb {r : List V → Hp → VK → Prop} {Φl : List PyData → Prop} (h : EvL K π tl σ H0 Φl) (k : ∀ ds, Φl ds → CbD K π r ds Φ) : EvD K π (tCB r tl) σ H0 Φ := fun H1 o Q q => h H1 o _ fun vs ds N H2 pd s kd =>
  k ds pd vs N H2 kd (s.okk o) Q fun v d N2 H3 hd s2 hv => q v d N2 H3 hd (s.trans s2 o) hv
theorem ed_cb' {r : List V → Hp → VK → Prop} {ds : List PyData} (h : EvL K π tl σ H0 (· = ds)) (k : CbD K π r ds Φ) : EvD K π (tCB r tl) σ H0 Φ := ed_cb h fun _ e => by rw [e]; exact k
theorem dps1 {vs : List V} {d : PyData} (h : DpAll K H0 vs [d]) : ∃ v, vs = [v] ∧ Dp K H0 v d := by
  cases h with
  | cons h1 h2 =>
    cases h2
    exact ⟨_, rfl, h1⟩
abbrev rLen (K : PySem.W.Frag) : List V → Hp → VK → Prop := fun xs H Q => ∃ p ys, xs = [.ref p] ∧ (SqL K H p ys ∨ SqT K H p ys) ∧ Q (.int ys.length) H
theorem cb_lenT {ds : List PyData} : CbD K π (rLen K) [.tuple ds] (· = .int ds.length) := fun vs H0 H1 h o Q q => by
  obtain ⟨v, rfl, hv⟩ := dps1 h
  obtain ⟨a, xs, rfl, hs, hd⟩ := dp_tup hv
  exact ⟨a, xs, rfl, .inr (ex_t o.ex hs), by rw [dps_len hd]; exact q _ _ H0 H1 rfl o.stp (.int _)⟩
theorem cb_lenL {ds : List PyData} : CbD K π (rLen K) [.list ds] (· = .int ds.length) := fun vs H0 H1 h o Q q => by
  obtain ⟨v, rfl, hv⟩ := dps1 h
  obtain ⟨a, xs, rfl, hs, hd⟩ := dp_lst hv
  exact ⟨a, xs, rfl, .inl (ex_l o.ex hs), by rw [dps_len hd]; exact q _ _ H0 H1 rfl o.stp (.int _)⟩
abbrev rTupOf (K : PySem.W.Frag) : List V → Hp → VK → Prop := fun xs H Q => ∃ p ys, xs = [.ref p] ∧ ((SqL K H p ys ∧ ∀ l, H l = none → Q (.ref l) (upd H l (.tup ys))) ∨ (SqT K H p ys ∧ Q (.ref p) H))
theorem cb_tupL {ds : List PyData} : CbD K π (rTupOf K) [.list ds] (· = .tuple ds) := fun vs H0 H1 h o Q q => by
  obtain ⟨v, rfl, hv⟩ := dps1 h
  obtain ⟨a, xs, rfl, hs, hd⟩ := dp_lst hv
  refine ⟨a, xs, rfl, .inl ⟨ex_l o.ex hs, fun p hp => ?_⟩⟩
  have s4 := o.new hp (Ex.new hp) (upd_same (o := .tup xs))
  exact q _ _ _ _ rfl s4 (.tup (st_of upd_same) (dps_ex s4.ex hd))
theorem cb_tupT {ds : List PyData} : CbD K π (rTupOf K) [.tuple ds] (· = .tuple ds) := fun vs H0 H1 h o Q q => by
  obtain ⟨v, rfl, hv⟩ := dps1 h
  obtain ⟨a, xs, rfl, hs, hd⟩ := dp_tup hv
  exact ⟨a, xs, rfl, .inr ⟨ex_t o.ex hs, q _ _ H0 H1 rfl o.stp (.tup hs hd)⟩⟩
theorem cb_repr {d : PyData} (h1 : d.showable = true) (h2 : d.hasDict = false) (h3 : d.depth ≤ 40) (h4 : d.shown.length ≤ sizeLine) : CbD K π (rRepr K) [d] (· = .str d.shown) := fun vs H0 H1 h o Q q => by
  obtain ⟨v, rfl, hv⟩ := dps1 h
  exact ⟨v, d, rfl, dp_ex o.ex hv, h1, h2, h3, h4, q _ _ H0 H1 rfl o.stp (.str _)⟩
theorem map_bl : ∀ {bs : List Bool} {vs : List V}, DpAll K H0 vs (bs.map .bool) → vs = bs.map .bl
  | [], _, h => by cases h; rfl
  | _ :: _, _, h => by
    cases h with
    | cons h1 h2 => rw [dp_bl h1, map_bl h2]; rfl
theorem cb_all {bs : List Bool} : CbD K π (rAll K) [.list (bs.map .bool)] (· = .bool (bs.all id)) := fun vs H0 H1 h o Q q => by
  obtain ⟨v, rfl, hv⟩ := dps1 h
  obtain ⟨a, xs, rfl, hs, hd⟩ := dp_lst hv
  rw [map_bl hd] at hs
  exact ⟨a, bs, rfl, ex_l o.ex hs, q _ _ H0 H1 rfl o.stp (.bl _)⟩

/-! ### own defs, by data -/
/-- a def that reads data and hands back data -/
def spD (K : PySem.W.Frag) (pre : List PyData → Prop) (post : List PyData → DP) : Sp := fun vs H Q _ => ∃ H0 ds, DpAll K H0 vs ds ∧ pre ds ∧ Okk K none H0 H ∧ PostV K none H0 H (post ds) Q
/-- a def that draws by the pen at its first place -/
def spP (K : PySem.W.Frag) (pre : List PyData → Prop) (post : List PyData → DP) : Sp := fun vs H Q _ => ∃ (q : Pn) (H0 : Hp) (ws : List V) (ds : List PyData), vs = .ref q.p :: ws ∧ DpAll K H0 ws ds ∧ pre ds ∧ Okk K (some q) H0 H ∧ PostV K (some q) H0 H (post ds) Q
theorem okk_none (o : Okk K π H0 H1) : Okk K none H0 H1 := ⟨o.ex, fun q e => by cases e⟩
theorem stp_any {H2 : Hp} (o : Okk K π H0 H1) (s : Stp K none H0 H1 H0' H2) : Stp K π H0 H1 H0' H2 :=
  have e : Ex H1 H2 := fun a u h => s.off a u (fun q z => by cases z) h
  ⟨s.ex, s.gr, s.ex2, Off.of e, fun q z => (o.pen q z).2.ex e⟩
theorem sp_ok {pre : List PyData → Prop} {post : List PyData → DP} {ds : List PyData} {vs : List V} {Q : VK} {E : XK} (hp : pre ds) (kd : DpAll K H0 vs ds) (o : Okk K π H0 H1) (q : PostV K π H0 H1 (post ds) Q) : spD K pre post vs H1 Q E :=
  ⟨H0, ds, kd, hp, okk_none o, fun v d N H2 pd s hv => q v d N H2 pd (stp_any o s) hv⟩
theorem ed_go {pre : List PyData → Prop} {post : List PyData → DP} {Φl : List PyData → Prop} (h : EvL K π tl σ H0 Φl) (hp : ∀ ds, Φl ds → pre ds) (k : ∀ ds d, Φl ds → post ds d → Φ d) : EvD K π (tGo (spD K pre post) tl) σ H0 Φ := fun H1 o Q q => h H1 o _ fun vs ds N H2 pd s kd =>
  sp_ok (hp ds pd) kd (s.okk o) fun v d N2 H3 hd s2 hv => q v d N2 H3 (k ds d pd hd) (s.trans s2 o) hv
theorem ed_call {pre : List PyData → Prop} {post : List PyData → DP} {Φl : List PyData → Prop} (h : EvL K π tl σ H0 Φl) (hp : ∀ ds, Φl ds → pre ds) (k : ∀ ds d, Φl ds → post ds d → Φ d) : EvD K π (tCall (spD K pre post) [] E0 tl) σ H0 Φ := fun H1 o Q q => h H1 o _ fun vs ds N H2 pd s kd =>
  show spD K pre post (vs ++ []) H2 Q E0 by
    rw [List.append_nil]
    exact sp_ok (hp ds pd) kd (s.okk o) fun v d N2 H3 hd s2 hv => q v d N2 H3 (k ds d pd hd) (s.trans s2 o) hv
theorem ed_callP {q : Pn} {pre : List PyData → Prop} {post : List PyData → DP} {Φl : List PyData → Prop} (hv : σ[i]? = some (some (.ref q.p))) (h : EvL K (some q) tl σ H0 Φl) (hp : ∀ ds, Φl ds → pre ds) (k : ∀ ds d, Φl ds → post ds d → Φ d) :
    EvD K (some q) (tCall (spP K pre post) [] E0 (tCons (tVar i) tl)) σ H0 Φ := fun H1 o Q qq => ⟨_, hv, h H1 o _ fun vs ds N H2 pd s kd =>
  show spP K pre post ((.ref q.p :: vs) ++ []) H2 Q E0 by
    rw [List.append_nil]
    exact ⟨q, N, vs, ds, rfl, kd, hp ds pd, s.okk o, fun v d N2 H3 hd s2 hv => qq v d N2 H3 (k ds d pd hd) (s.trans s2 o) hv⟩⟩
theorem ed_goP {q : Pn} {pre : List PyData → Prop} {post : List PyData → DP} {Φl : List PyData → Prop} (hv : σ[i]? = some (some (.ref q.p))) (h : EvL K (some q) tl σ H0 Φl) (hp : ∀ ds, Φl ds → pre ds) (k : ∀ ds d, Φl ds → post ds d → Φ d) :
    EvD K (some q) (tGo (spP K pre post) (tCons (tVar i) tl)) σ H0 Φ := fun H1 o Q qq => ⟨_, hv, h H1 o _ fun vs ds N H2 pd s kd =>
  ⟨q, N, vs, ds, rfl, kd, hp ds pd, s.okk o, fun v d N2 H3 hd s2 hv => qq v d N2 H3 (k ds d pd hd) (s.trans s2 o) hv⟩⟩

/-! ### what is walked -/
structure WalkD (K : PySem.W.Frag) (π : Option Pn) (J : It) (xs : List PyData) (N : Hp) : Prop where
  go : ∀ i M H, Ex N M → Okk K π M H → i < xs.length → J.go i H
  stop : ∀ M H, Ex N M → Okk K π M H → J.stop xs.length H
  yld : ∀ i M H x H', Ex N M → Okk K π M H → i < xs.length → J.yld i H x H' → ∃ M' d, xs[i]? = some d ∧ Stp K π M H M' H' ∧ Dp K M' x d
def EvI (K : PySem.W.Frag) (π : Option Pn) (wi : TI) (σ : L2.St) (H0 : Hp) (Φ : List PyData → Prop) : Prop := ∀ H1, Okk K π H0 H1 → ∀ R : It → Hp → Prop, (∀ J xs N H2, Φ xs → Stp K π H0 H1 N H2 → WalkD K π J xs N → R J H2) → wi σ H1 R
theorem EvI.mono {wi : TI} {Φ : List PyData → Prop} (e : Ex H0 H0') (h : EvI K π wi σ H0 Φ) : EvI K π wi σ H0' Φ := fun H1 o R q => h H1 (okk_less e o) R fun J xs N H2 hx s w => by
  obtain ⟨M, hM, s'⟩ := stp_more e o s
  exact q J xs M H2 hx s' ⟨fun i A B e1 => w.go i A B (hM.trans e1), fun A B e1 => w.stop A B (hM.trans e1), fun i A B x H' e1 => w.yld i A B x H' (hM.trans e1)⟩
theorem ei_tup {xs : List PyData} (h : EvD K π te σ H0 (· = .tuple xs)) : EvI K π (iTup K te) σ H0 (· = xs) := fun H1 o R q => h H1 o _ fun v d N H2 e s hv => by
  subst e
  obtain ⟨a, vs, rfl, hs, hd⟩ := dp_tup hv
  refine ⟨a, rfl, ⟨vs, ex_t (s.okk o).ex hs⟩, q _ xs N H2 rfl s ⟨fun i M H e1 oM hi => ?_, fun M H e1 oM => ?_, fun i M H x H' e1 oM hi hy => ?_⟩⟩
  · obtain ⟨w, ew, _⟩ := dps_get hd (List.getElem?_eq_getElem hi)
    exact ⟨vs, w, ex_t (e1.trans oM.ex) hs, ew⟩
  · exact ⟨vs, ex_t (e1.trans oM.ex) hs, by rw [dps_len hd]; exact Nat.le_refl _⟩
  · obtain ⟨rfl, hy⟩ := hy
    have z := hy vs (ex_t (e1.trans oM.ex) hs)
    obtain ⟨w, ew, kw⟩ := dps_get hd (List.getElem?_eq_getElem hi)
    rw [z] at ew
    cases ew
    exact ⟨M, _, List.getElem?_eq_getElem hi, oM.stp, dp_ex e1 kw⟩
theorem ei_lst {xs : List PyData} (h : EvD K π te σ H0 (· = .list xs)) : EvI K π (iList K te) σ H0 (· = xs) := fun H1 o R q => h H1 o _ fun v d N H2 e s hv => by
  subst e
  obtain ⟨a, vs, rfl, hs, hd⟩ := dp_lst hv
  refine ⟨a, rfl, ⟨vs, ex_l (s.okk o).ex hs⟩, q _ xs N H2 rfl s ⟨fun i M H e1 oM hi => ?_, fun M H e1 oM => ?_, fun i M H x H' e1 oM hi hy => ?_⟩⟩
  · obtain ⟨w, ew, _⟩ := dps_get hd (List.getElem?_eq_getElem hi)
    exact ⟨vs, w, ex_l (e1.trans oM.ex) hs, ew⟩
  · exact ⟨vs, ex_l (e1.trans oM.ex) hs, by rw [dps_len hd]; exact Nat.le_refl _⟩
  · obtain ⟨rfl, hy⟩ := hy
    have z := hy vs (ex_l (e1.trans oM.ex) hs)
    obtain ⟨w, ew, kw⟩ := dps_get hd (List.getElem?_eq_getElem hi)
    rw [z] at ew
    cases ew
    exact ⟨M, _, List.getElem?_eq_getElem hi, oM.stp, dp_ex e1 kw⟩
def upto (lo : Int) (n : Nat) : List PyData := (List.range n).map fun k => .int (lo + (k : Nat))
theorem upto_len (lo : Int) (n : Nat) : (upto lo n).length = n := by simp [upto]
theorem upto_get {lo : Int} {n i : Nat} {d : PyData} (h : (upto lo n)[i]? = some d) : i < n ∧ d = .int (lo + (i : Nat)) := by
  have hi := (List.getElem?_eq_some_iff.mp h).1
  rw [upto_len] at hi
  unfold upto at h
  rw [List.getElem?_map, List.getElem?_range hi] at h
  exact ⟨hi, (Option.some.inj h).symm⟩
theorem wd_range {lo : Int} {n : Nat} {N : Hp} : WalkD K π (Itr lo n) (upto lo n) N :=
  ⟨fun i M H _ _ hi => by rw [upto_len] at hi; exact hi, fun M H _ _ => by rw [upto_len]; exact Nat.le_refl _, fun i M H x H' e1 oM hi hy => by
    obtain ⟨rfl, rfl⟩ := hy
    rw [upto_len] at hi
    refine ⟨M, .int (lo + (i : Nat)), ?_, oM.stp, .int _⟩
    unfold upto
    rw [List.getElem?_map, List.getElem?_range hi]
    rfl⟩
theorem ei_range1 {Φl : List PyData → Prop} {Ψl : List PyData → Prop} (h : EvL K π tl σ H0 Φl) (k : ∀ ds, Φl ds → ∃ n : Int, ds = [.int n] ∧ -(2 ^ 62) ≤ n ∧ n < 2 ^ 62 ∧ Ψl (upto 0 n.toNat)) : EvI K π (iRng1 tl) σ H0 Ψl := fun H1 o R q => h H1 o _ fun vs ds N H2 pd s kd => by
  obtain ⟨n, rfl, h1, h2, hx⟩ := k ds pd
  obtain ⟨v, rfl, hv⟩ := dps1 kd
  rw [dp_int hv]
  exact ⟨n, rfl, h1, h2, q _ _ N H2 hx s wd_range⟩
theorem ei_range2 {Φl : List PyData → Prop} {Ψl : List PyData → Prop} (h : EvL K π tl σ H0 Φl) (k : ∀ ds, Φl ds → ∃ m n : Int, ds = [.int m, .int n] ∧ (-(2 ^ 62) ≤ m ∧ m < 2 ^ 62 ∧ -(2 ^ 62) ≤ n ∧ n < 2 ^ 62) ∧ Ψl (upto m (n - m).toNat)) : EvI K π (iRng2 tl) σ H0 Ψl := fun H1 o R q => h H1 o _ fun vs ds N H2 pd s kd => by
  obtain ⟨m, n, rfl, h1, hx⟩ := k ds pd
  cases kd with
  | cons k1 k2 =>
    obtain ⟨v, rfl, hv⟩ := dps1 k2
    rw [dp_int hv, dp_int k1]
    exact ⟨m, n, rfl, h1, q _ _ N H2 hx s wd_range⟩
def pairs (xs ys : List PyData) : List PyData := List.zipWith (fun x y => .tuple [x, y]) xs ys
theorem pairs_get {xs ys : List PyData} {i : Nat} {x y : PyData} (h1 : xs[i]? = some x) (h2 : ys[i]? = some y) : (pairs xs ys)[i]? = some (.tuple [x, y]) := by
  unfold pairs
  rw [List.getElem?_zipWith, h1, h2]
theorem pairs_of {xs ys : List PyData} {i : Nat} {d : PyData} (h : (pairs xs ys)[i]? = some d) : ∃ x y, xs[i]? = some x ∧ ys[i]? = some y ∧ d = .tuple [x, y] := by
  unfold pairs at h
  rw [List.getElem?_zipWith] at h
  cases h1 : xs[i]? with
  | none => rw [h1] at h; cases h
  | some x =>
    cases h2 : ys[i]? with
    | none => rw [h1, h2] at h; cases h
    | some y =>
      rw [h1, h2] at h
      exact ⟨x, y, rfl, rfl, (Option.some.inj h).symm⟩
theorem ei_zipT {xs ys : List PyData} (h : EvL K π tl σ H0 (· = [.tuple xs, .tuple ys])) : EvI K π (RZ.iZipA K tl) σ H0 (· = pairs xs ys) := fun H1 o R q => h H1 o _ fun vs ds N H2 pd s kd => by
  subst pd
  cases kd with
  | cons k1 k2 =>
    obtain ⟨v, rfl, hv⟩ := dps1 k2
    obtain ⟨a, us, rfl, hs, hd⟩ := dp_tup k1
    obtain ⟨b, ws, rfl, ht, he⟩ := dp_tup hv
    have len : (pairs xs ys).length = min xs.length ys.length := by simp [pairs]
    have l1 := dps_len hd
    have l2 := dps_len he
    refine ⟨a, b, us, ws, rfl, .inr ⟨ex_t (s.okk o).ex hs, ex_t (s.okk o).ex ht, q _ _ N H2 rfl s ⟨fun i M H e1 oM hi => ?_, fun M H e1 oM => ?_, fun i M H x H' e1 oM hi hy => ?_⟩⟩⟩
    · obtain ⟨x, ex, _⟩ := dps_get hd (List.getElem?_eq_getElem (show i < xs.length by omega))
      obtain ⟨y, ey, _⟩ := dps_get he (List.getElem?_eq_getElem (show i < ys.length by omega))
      exact ⟨us, ws, x, y, ex_t (e1.trans oM.ex) hs, ex_t (e1.trans oM.ex) ht, ex, ey⟩
    · exact ⟨us, ws, ex_t (e1.trans oM.ex) hs, ex_t (e1.trans oM.ex) ht, by omega⟩
    · obtain ⟨T, u, w, rfl, hT, rfl, hx, hy⟩ := hy
      have z1 := hx us (ex_t (e1.trans oM.ex) hs)
      have z2 := hy ws (ex_t (e1.trans oM.ex) ht)
      have g1 := List.getElem?_eq_getElem (show i < xs.length by omega)
      have g2 := List.getElem?_eq_getElem (show i < ys.length by omega)
      obtain ⟨x, ex, kx⟩ := dps_get hd g1
      obtain ⟨y, ey, ky⟩ := dps_get he g2
      rw [z1] at ex
      rw [z2] at ey
      cases ex
      cases ey
      have s4 := oM.new hT (Ex.new hT) (upd_same (o := .tup [u, w]))
      exact ⟨_, _, pairs_get g1 g2, s4, .tup (st_of upd_same) (.cons (dp_ex (e1.trans s4.ex) kx) (.cons (dp_ex (e1.trans s4.ex) ky) .nil))⟩

/-! ### targets -/
def TgD (K : PySem.W.Frag) (g : TG) (ok : PyData → Prop) (T : PyData → Hp → L2.St → L2.St → Prop) : Prop := ∀ x d M H σ (Q : L2.St → Hp → Prop), ok d → Dp K M x d → Ex M H → (∀ σ', T d M σ σ' → Q σ' H) → g x σ H Q
def T1 (K : PySem.W.Frag) (j : Nat) : PyData → Hp → L2.St → L2.St → Prop := fun d M σ σ' => ∃ x, Dp K M x d ∧ σ' = σ.set j (some x)
def T2 (K : PySem.W.Frag) (j k : Nat) : PyData → Hp → L2.St → L2.St → Prop := fun d M σ σ' => ∃ a b x y, d = .tuple [a, b] ∧ Dp K M x a ∧ Dp K M y b ∧ σ' = (σ.set j (some x)).set k (some y)
theorem tg1 {j : Nat} : TgD K (gName j) (fun _ => True) (T1 K j) := fun x d M H σ Q _ hx _ q => q _ ⟨x, hx, rfl⟩
theorem tg2 {j k : Nat} : TgD K (gTup K 2 (gCons (gName j) (gCons (gName k) gNil))) (fun d => ∃ a b, d = .tuple [a, b]) (T2 K j k) := fun x d M H σ Q hd hx e q => by
  obtain ⟨a, b, rfl⟩ := hd
  obtain ⟨p, vs, rfl, hs, hall⟩ := dp_tup hx
  cases hall with
  | cons h1 h2 =>
    obtain ⟨y, rfl, hy⟩ := dps1 h2
    exact ⟨p, _, rfl, ex_t e hs, rfl, _, _, rfl, _, _, rfl, rfl, q _ ⟨a, b, _, y, rfl, h1, hy, rfl⟩⟩

/-- an object that the walk's beginning does not know may change -/
theorem Stp.mut {M H2 : Hp} {l : Addr} {ob : HO} (s : Stp K π H0 H1 M H2) (o : Okk K π H0 H1) (h1 : H1 l = none) (hM : M l = none) : Stp K π H0 H1 M (upd H2 l ob) := by
  have h2 : ∀ a u, H1 a = some u → a ≠ l := fun a u e z => by rw [z, h1] at e; cases e
  refine ⟨s.ex, s.gr, fun a u e => ?_, fun a u n e => ?_, fun q hq => ?_⟩
  · rw [upd_ne (fun z => by rw [z, hM] at e; cases e)]
    exact s.ex2 a u e
  · rw [upd_ne (h2 a u e)]
    exact s.off a u n e
  · have P1 := (o.pen q hq).2
    have P2 := s.pen q hq
    obtain ⟨c1, c2, c3⟩ := P1.cells
    obtain ⟨b1, b2, b3⟩ := P2.cells
    refine ⟨⟨b1, b2, by rw [upd_ne (h2 _ _ c3)]; exact b3⟩, ?_, P2.ne, P2.few⟩
    rcases P1.given with (h | ⟨ob', h⟩) | h
    · refine .inl (.inl ?_)
      rw [upd_ne (h2 _ _ h)]
      exact s.off _ _ (fun q' hq' z => by rw [hq] at hq'; cases hq'; exact P1.ne z) h
    · refine .inl (.inr ⟨ob', ?_⟩)
      rw [upd_ne (h2 _ _ h)]
      exact s.off _ _ (fun q' hq' z => by rw [hq] at hq'; cases hq'; exact P1.ne z) h
    · exact .inr h

/-! ### comprehensions -/
/-- a new list -/
def EvF (K : PySem.W.Frag) (π : Option Pn) (te : TE) (σ : L2.St) (H0 : Hp) (Φ : List PyData → Prop) : Prop := ∀ H1, Okk K π H0 H1 → ∀ Q : VK,
  (∀ p vs ds N H2, Φ ds → Stp K π H0 H1 N H2 → N p = some (.lst vs) → DpAll K N vs ds → Q (.ref p) H2) → te σ H1 Q
theorem EvF.ed {Φl : List PyData → Prop} (h : EvF K π te σ H0 Φl) (k : ∀ ds, Φl ds → Φ (.list ds)) : EvD K π te σ H0 Φ := fun H1 o Q q =>
  h H1 o Q fun p vs ds N H2 hd s hp kd => q _ _ N H2 (k ds hd) s (.lst (sq_of hp) kd)
theorem ef_lc {Φ : List PyData → Prop} {wi : TI} {g : TG} {vs : List Nat} {Φx : List PyData → Prop} {T : PyData → Hp → L2.St → L2.St → Prop} {ok : PyData → Prop} (hi : EvI K π wi σ H0 Φx) (hT : TgD K g ok T) (hok : ∀ xs d, Φx xs → d ∈ xs → ok d) (hlen : ∀ xs, Φx xs → xs.length ≤ 40000)
    (hw : ∀ d M σ', T d M (wipe σ vs) σ' → wipe σ' vs = wipe σ vs) (Pv : List PyData → Nat → List PyData → Prop) (h0 : ∀ xs, Φx xs → Pv xs 0 [])
    (hs : ∀ xs i d acc M σ', Φx xs → xs[i]? = some d → Ex H0 M → T d M (wipe σ vs) σ' → Pv xs i acc → ∃ Φb : Bool → Prop, EvB K π tt σ' M Φb ∧ (Φb true → EvD K π te σ' M fun y => Pv xs (i + 1) (acc ++ [y])) ∧ (Φb false → Pv xs (i + 1) acc))
    (hd : ∀ xs acc, Φx xs → Pv xs xs.length acc → Φ acc) : EvF K π (tLc wi g tt te vs) σ H0 Φ := fun H1 o Q q => hi H1 o _ fun J xs N H2 px s wk D hD => by
  have oN := s.okk o
  have nD : N D = none := fresh_back oN.ex hD
  let Inv := fun (i : Nat) (H : Hp) => ∃ M acc accV, M D = none ∧ Stp K π N H2 M H ∧ H D = some (.lst accV) ∧ DpAll K M accV acc ∧ Pv xs i acc ∧ acc.length ≤ i
  refine ⟨fun i m H => m = xs.length - i ∧ i ≤ xs.length ∧ Inv i H, ⟨xs.length, by simp, Nat.zero_le _, ?_⟩, ?_⟩
  · exact ⟨N, [], [], nD, oN.stp.mut oN hD nD, upd_same, .nil, h0 xs px, Nat.le_refl _⟩
  rintro i m H ⟨rfl, hi', M, acc, accV, mD, sM, hDH, hacc, pv, hla⟩
  have oM := sM.okk oN
  by_cases hlt : i < xs.length
  · refine .inr ⟨wk.go i M H sM.ex oM hlt, Inv (i + 1), fun H' p' => ⟨xs.length - (i + 1), by omega, rfl, hlt, p'⟩, fun x H' hy => ?_⟩
    obtain ⟨M', d, ed, s1, kd⟩ := wk.yld i M H x H' sM.ex oM hlt hy
    have o1 := s1.okk oM
    have neD : ∀ q, π = some q → D ≠ q.p := fun q hq z => by
      rw [z] at hD
      exact (oN.pen q hq).2.some hD
    have m1D := s1.out mD (by rw [hDH]; exact fun z => by cases z)
    have h1D : H' D = some (.lst accV) := s1.off _ _ neD hDH
    refine hT x d M' H' _ _ (hok xs d px (List.mem_of_getElem? ed)) kd o1.ex fun σ' tσ => ⟨hw d M' σ' tσ, ?_⟩
    obtain ⟨Φb, hb, ht, hf⟩ := hs xs i d acc M' σ' px ed (s.ex.trans (sM.ex.trans s1.ex)) tσ pv
    refine hb H' o1 _ fun b M2 H3 pb s2 => ?_
    have o2 := s2.okk o1
    have m2D := s2.out m1D (by rw [h1D]; exact fun z => by cases z)
    have h2D : H3 D = some (.lst accV) := s2.off _ _ neD h1D
    cases b with
    | false =>
      show Inv (i + 1) H3
      exact ⟨M2, acc, accV, m2D, (sM.trans s1 oN).trans s2 oN, h2D, dps_ex (s1.ex.trans s2.ex) hacc, hf pb, by omega⟩
    | true =>
      refine (ht pb).mono s2.ex H3 o2 _ fun y dy M3 H4 py s3 ky => ?_
      have m3D := s3.out m2D (by rw [h2D]; exact fun z => by cases z)
      have h3D : H4 D = some (.lst accV) := s3.off _ _ neD h2D
      have S := ((sM.trans s1 oN).trans s2 oN).trans s3 oN
      have hl := dps_len hacc
      have hx := hlen xs px
      refine ⟨accV, h3D, Evl.sz_lt (by omega), M3, acc ++ [dy], accV ++ [y], m3D, S.mut oN hD m3D, upd_same, ?_, py, by rw [List.length_append, List.length_singleton]; omega⟩
      exact dps_app (dps_ex (s1.ex.trans (s2.ex.trans s3.ex)) hacc) (.cons ky .nil)
  · have e : i = xs.length := by omega
    subst e
    refine .inl ⟨wk.stop M H sM.ex oM, ?_⟩
    have sD : Stp K π N H2 (upd M D (.lst accV)) H := by
      refine ⟨sM.ex.trans (Ex.new mD), fun a ha => ?_, fun a u ha => ?_, sM.off, sM.pen⟩
      · by_cases ea : a = D
        · subst ea
          exact .inr hD
        · rw [upd_ne ea] at ha
          exact sM.gr a ha
      · by_cases ea : a = D
        · subst ea
          rw [upd_same] at ha
          cases ha
          exact hDH
        · rw [upd_ne ea] at ha
          exact sM.ex2 a u ha
    exact q _ _ _ _ _ (hd xs acc px pv) (s.trans sD o) upd_same (dps_ex (Ex.new mD) hacc)

/-! ### statements -/
variable {M H : Hp} {D : Ends} {t u tz : TS} {S0 S1 : Hp}
theorem PostV.go (q : PostV K π S0 S1 Φ Q) (o : Okk K π S0 S1) (s : Stp K π S0 S1 M H) (k : ∀ d, Ψ d → Φ d) : PostV K π M H Ψ Q := fun v d N H2 hd s2 hv => q v d N H2 (k d hd) (s.trans s2 o) hv
theorem s_ret (h : EvD K π te σ M Φ) (o : Okk K π M H) (q : PostV K π M H Φ D.rt) : tRet te D σ H := h H o _ q
theorem s_asg (h : EvD K π te σ M Φ) (o : Okk K π M H) (k : ∀ v d M' H', Φ d → Stp K π M H M' H' → Dp K M' v d → D.nx (σ.set i (some v)) H') : tAsg te (gName i) D σ H := h H o _ fun v d N H2 hd s hv => k v d N H2 hd s hv
theorem q_asg (h : EvD K π te σ M Φ) (o : Okk K π M H) (k : ∀ v d M' H', Φ d → Stp K π M H M' H' → Dp K M' v d → tz D (σ.set i (some v)) H') : tSeq (tAsg te (gName i)) tz D σ H := s_asg (D := { D with nx := tz D }) h o k
theorem s_if {Φb : Bool → Prop} (h : EvB K π tt σ M Φb) (o : Okk K π M H) (k1 : Φb true → ∀ M' H', Stp K π M H M' H' → t D σ H') (k2 : Φb false → ∀ M' H', Stp K π M H M' H' → u D σ H') : tIfS tt t u D σ H := h H o _ fun b N H2 hb s => by
  cases b with
  | true => exact k1 hb N H2 s
  | false => exact k2 hb N H2 s
theorem q_if {Φb : Bool → Prop} (h : EvB K π tt σ M Φb) (o : Okk K π M H) (k1 : Φb true → ∀ M' H', Stp K π M H M' H' → t { D with nx := tz D } σ H') (k2 : Φb false → ∀ M' H', Stp K π M H M' H' → u { D with nx := tz D } σ H') : tSeq (tIfS tt t u) tz D σ H :=
  s_if (D := { D with nx := tz D }) h o k1 k2
/-- if c: .. (no else), then the rest -/
theorem q_when {Φb : Bool → Prop} (h : EvB K π tt σ M Φb) (o : Okk K π M H) (k1 : Φb true → ∀ M' H', Stp K π M H M' H' → t { D with nx := tz D } σ H') (k2 : Φb false → ∀ M' H', Stp K π M H M' H' → tz D σ H') : tSeq (tIfS tt t tNext) tz D σ H :=
  s_if (D := { D with nx := tz D }) h o k1 k2
theorem q_par {j : Nat} {Φ2 : PyData → PyData → Prop} (h : EvL K π tl σ M (fun ds => ∃ a b, ds = [a, b] ∧ Φ2 a b)) (o : Okk K π M H)
    (k : ∀ v w a b M' H', Φ2 a b → Stp K π M H M' H' → Dp K M' v a → Dp K M' w b → tz D ((σ.set i (some v)).set j (some w)) H') : tSeq (tPar i j tl) tz D σ H := h H o _ fun vs ds N H2 hd s kd => by
  obtain ⟨a, b, rfl, hab⟩ := hd
  cases kd with
  | cons k1 k2 =>
    obtain ⟨w, rfl, hw⟩ := dps1 k2
    exact ⟨_, _, rfl, k _ w a b N H2 hab s k1 hw⟩
theorem s_for {wi : TI} {g : TG} {Φx : List PyData → Prop} {T : PyData → Hp → L2.St → L2.St → Prop} {ok : PyData → Prop} (hi : EvI K π wi σ M Φx) (o : Okk K π M H) (hT : TgD K g ok T) (hok : ∀ xs d, Φx xs → d ∈ xs → ok d)
    (Pv : List PyData → Nat → L2.St → Hp → Hp → Prop) (hO : ∀ xs i σ' M' H', Pv xs i σ' M' H' → Okk K π M' H')
    (h0 : ∀ xs N H2, Φx xs → Stp K π M H N H2 → Pv xs 0 σ N H2)
    (hs : ∀ xs i d σ' M' H' M2 H2 σ2, Φx xs → Ex M M' → Pv xs i σ' M' H' → Stp K π M' H' M2 H2 → xs[i]? = some d → T d M2 σ' σ2 → t { D with nx := fun σ3 H3 => ∃ M3, Ex M' M3 ∧ Pv xs (i + 1) σ3 M3 H3, ct := fun σ3 H3 => ∃ M3, Ex M' M3 ∧ Pv xs (i + 1) σ3 M3 H3, bk := D.nx } σ2 H2)
    (hd : ∀ xs σ' M' H', Φx xs → Ex M M' → Pv xs xs.length σ' M' H' → D.nx σ' H') : tFor wi g t D σ H := hi H o _ fun J xs N H2 px s wk => by
  refine ⟨fun i m σ' H' => m = xs.length - i ∧ i ≤ xs.length ∧ ∃ M', Ex N M' ∧ Pv xs i σ' M' H', ⟨xs.length, by simp, Nat.zero_le _, N, Ex.refl _, h0 xs N H2 px s⟩, ?_⟩
  rintro i m σ' H' ⟨rfl, hi', M', e1, pv⟩
  have oM := hO _ _ _ _ _ pv
  by_cases hlt : i < xs.length
  · refine .inr ⟨wk.go i M' H' e1 oM hlt, fun σ3 H3 => ∃ M3, Ex M' M3 ∧ Pv xs (i + 1) σ3 M3 H3, ?_, fun x H'' hy => ?_⟩
    · rintro σ3 H3 ⟨M3, e3, p3⟩
      exact ⟨xs.length - (i + 1), by omega, rfl, hlt, M3, e1.trans e3, p3⟩
    obtain ⟨M2, d, ed, s1, kd⟩ := wk.yld i M' H' x H'' e1 oM hlt hy
    exact hT x d M2 H'' σ' _ (hok xs d px (List.mem_of_getElem? ed)) kd (s1.okk oM).ex fun σ2 tσ => hs xs i d σ' M' H' M2 H'' σ2 px (s.ex.trans e1) pv s1 ed tσ
  · have e : i = xs.length := by omega
    subst e
    exact .inl ⟨wk.stop M' H' e1 oM, hd xs σ' M' H' px (s.ex.trans e1) pv⟩
theorem q_for {wi : TI} {g : TG} {Φx : List PyData → Prop} {T : PyData → Hp → L2.St → L2.St → Prop} {ok : PyData → Prop} (hi : EvI K π wi σ M Φx) (o : Okk K π M H) (hT : TgD K g ok T) (hok : ∀ xs d, Φx xs → d ∈ xs → ok d)
    (Pv : List PyData → Nat → L2.St → Hp → Hp → Prop) (hO : ∀ xs i σ' M' H', Pv xs i σ' M' H' → Okk K π M' H')
    (h0 : ∀ xs N H2, Φx xs → Stp K π M H N H2 → Pv xs 0 σ N H2)
    (hs : ∀ xs i d σ' M' H' M2 H2 σ2, Φx xs → Ex M M' → Pv xs i σ' M' H' → Stp K π M' H' M2 H2 → xs[i]? = some d → T d M2 σ' σ2 → t { D with nx := fun σ3 H3 => ∃ M3, Ex M' M3 ∧ Pv xs (i + 1) σ3 M3 H3, ct := fun σ3 H3 => ∃ M3, Ex M' M3 ∧ Pv xs (i + 1) σ3 M3 H3, bk := tz D } σ2 H2)
    (hd : ∀ xs σ' M' H', Φx xs → Ex M M' → Pv xs xs.length σ' M' H' → tz D σ' H') : tSeq (tFor wi g t) tz D σ H := s_for (D := { D with nx := tz D }) hi o hT hok Pv hO h0 hs hd
/-- while c: W with a measure -/
theorem q_while (W : Nat → L2.St → Hp → Hp → Prop) (m0 : Nat) (hO : ∀ m σ' M' H', W m σ' M' H' → Okk K π M' H') (h0 : W m0 σ M H)
    (hs : ∀ m σ' M' H', W m σ' M' H' → ∃ b : Bool, EvB K π tt σ' M' (· = b) ∧
      (b = true → ∀ M2 H2, Stp K π M' H' M2 H2 → t { D with nx := fun σ3 H3 => ∃ m' M3, m' < m ∧ W m' σ3 M3 H3, ct := fun σ3 H3 => ∃ m' M3, m' < m ∧ W m' σ3 M3 H3, bk := tz D } σ' H2) ∧
      (b = false → ∀ M2 H2, Stp K π M' H' M2 H2 → tz D σ' H2)) : tSeq (tWhile tt t) tz D σ H := by
  refine ⟨fun m σ' H' => ∃ M', W m σ' M' H', ⟨m0, M, h0⟩, ?_⟩
  rintro m σ' H' ⟨M', w⟩
  obtain ⟨b, hb, k1, k2⟩ := hs m σ' M' H' w
  refine hb H' (hO _ _ _ _ w) _ fun c N H2 ec s => ?_
  subst ec
  cases c with
  | true => exact ⟨_, fun σ3 H3 ⟨m', M3, l, w3⟩ => ⟨m', l, M3, w3⟩, k1 rfl N H2 s⟩
  | false => exact k2 rfl N H2 s
/-- lists that change: a new one; append, extend; from now on read alone -/
theorem q_new (k : ∀ p, H p = none → tz D (σ.set i (some (.ref p))) (upd H p (.lst []))) : tSeq (tAsg (tLst tNil) (gName i)) tz D σ H := ⟨Nat.zero_le _, k⟩
theorem s_app {l : Addr} {xs : List V} (ha : σ[i]? = some (some (.ref l))) (hl : H l = some (.lst xs)) (hn : ∀ q, π = some q → l ≠ q.p) (hz : xs.length < 100000) (h : EvD K π te σ M Φ) (o : Okk K π M H)
    (k : ∀ v d M' H', Φ d → Stp K π M H M' H' → Dp K M' v d → H' l = some (.lst xs) → D.nx σ (upd H' l (.lst (xs ++ [v])))) : tDrop (tBM K "list" rAppend (tVar i) (tCons te tNil)) D σ H := by
  refine ⟨_, ha, .inl ⟨rfl, _, .inl (.inl hl)⟩, h H o _ fun v d N H2 hd s hv => ?_⟩
  have h2 := s.off _ _ hn hl
  exact ⟨l, xs, v, rfl, rfl, h2, Evl.sz_lt hz, k v d N H2 hd s hv h2⟩
theorem s_ext {l : Addr} {xs : List V} {Φl : List PyData → Prop} (ha : σ[i]? = some (some (.ref l))) (hl : H l = some (.lst xs)) (hn : ∀ q, π = some q → l ≠ q.p) (h : EvF K π te σ M Φl) (o : Okk K π M H) (hz : ∀ ds, Φl ds → xs.length + ds.length ≤ 100000)
    (k : ∀ vs ds M' H', Φl ds → Stp K π M H M' H' → DpAll K M' vs ds → H' l = some (.lst xs) → D.nx σ (upd H' l (.lst (xs ++ vs)))) : tDrop (tBM K "list" rExtend (tVar i) (tCons te tNil)) D σ H := by
  refine ⟨_, ha, .inl ⟨rfl, _, .inl (.inl hl)⟩, h H o _ fun p vs ds N H2 hd s hp kd => ?_⟩
  have h2 := s.off _ _ hn hl
  exact ⟨l, p, xs, vs, rfl, rfl, h2, s.ex2 _ _ hp, Evl.sz_of (by rw [dps_len kd]; exact hz ds hd), k vs ds N H2 hd s kd h2⟩
theorem Stp.freeze {l : Addr} {ob : HO} (s : Stp K π S0 S1 M H) (h1 : S1 l = none) (hM : M l = none) (hl : H l = some ob) : Stp K π S0 S1 (upd M l ob) H := by
  refine ⟨s.ex.trans (Ex.new hM), fun a ha => ?_, fun a u ha => ?_, s.off, s.pen⟩
  · by_cases ea : a = l
    · subst ea
      exact .inr h1
    · rw [upd_ne ea] at ha
      exact s.gr a ha
  · by_cases ea : a = l
    · subst ea
      rw [upd_same] at ha
      cases ha
      exact hl
    · rw [upd_ne ea] at ha
      exact s.ex2 a u ha
end
end Dl

set_option maxRecDepth 100000
set_option maxHeartbeats 4000000
namespace Dl
open PySem PySem.Spec PyProof.Rows L2 Gd Dt
open Evl (Ex Ex.refl Ex.trans Ex.new ex_l ex_t sq_of st_of fresh_back)

/-- the built-ins stand under their names -/
structure Blt (mg : Str → Option Value) : Prop where
  len : mg "len" = none
  int : mg "int" = none
  list : mg "list" = none
  tuple : mg "tuple" = none
  repr : mg "repr" = none
  range : mg "range" = none
  zip : mg "zip" = none
  all : mg "all" = none

/-- a def of the text that keeps its promise, as callers find it -/
structure Cal (P : Program) (w : World) (K : PySem.W.Frag) (mg : Str → Option Value) (base : Heap) (x : Str) (k : Nat) (ps : List Str) (sp : Sp) : Prop where
  ex : ∃ (f : Addr) (fd : FuncData), FnOk P w K mg base CX0 k f fd ps sp ∧ mg x = some (.ref f) ∧ PySem.W.keepIn K (.ref f) = true ∧ L2.Binds K fd ps []
/-- the same where no repr is on its way -/
structure CalG (P : Program) (w : World) (K : PySem.W.Frag) (mg : Str → Option Value) (base : Heap) (x : Str) (k : Nat) (ps : List Str) (sp : Sp) : Prop where
  ex : ∃ (f : Addr) (fd : FuncData), Fn P w K mg base k f fd ps sp ∧ mg x = some (.ref f) ∧ PySem.W.keepIn K (.ref f) = true ∧ L2.Binds K fd ps []
section
variable {X : Cx} {k j : Nat} {ps : List Str} {sp : Sp} {x : Str} {p pos : Pos} {e : Expr} {es : List Expr} {t : TA}
theorem pe_c (c : Cal X.prog X.w X.K X.mg X.base x k ps sp) (hr : Room k X.A) (hg : Gl X x) (ha : PA X (e :: es) t) (hdb : (x == ("__debug__" : Str)) = false := by decide)
    (he : starEach (e :: es) X.env = (false, eval e X.env) :: starEach es X.env := by rfl) (hpl : (backTo pos (starEach es X.env)).any (·.1) = false := by rfl) : PE X (.Call (.Name x p) (e :: es) [] pos) (tCall sp [] E0 t) := by
  obtain ⟨f, fd, F, hm, hk, hb⟩ := c.ex
  exact pe_call F hr hg hm hk hb .nil pass0 ha hdb he hpl
theorem pe_cg (c : CalG X.prog X.w X.K X.mg X.base x k ps sp) (hfree : Free X.A) (hr : Room k X.A) (hg : Gl X x) (ha : PA X (e :: es) t) (hdb : (x == ("__debug__" : Str)) = false := by decide)
    (he : starEach (e :: es) X.env = (false, eval e X.env) :: starEach es X.env := by rfl) (hpl : (backTo pos (starEach es X.env)).any (·.1) = false := by rfl) : PE X (.Call (.Name x p) (e :: es) [] pos) (tGo sp t) := by
  obtain ⟨f, fd, F, hm, hk, hb⟩ := c.ex
  exact pe_go F hfree hr hg hm hk hb ha hdb he hpl
end

/-! ### tuples of whole numbers -/
def tupI (ns : List Int) : PyData := .tuple (ns.map .int)
theorem shaped_tupI (ns : List Int) : SeqAt.shaped (tupI ns) = true := by
  have h1 : ∀ ns : List Int, PyData.canLayAll0 (ns.map .int) = true := fun ns => by
    induction ns with
    | nil => rfl
    | cons n ns ih => simpa [PyData.canLayAll0, PyData.canLay0] using ih
  have h2 : ∀ ns : List Int, PyData.depthAll (ns.map .int) ≤ 1 := fun ns => by
    induction ns with
    | nil => simp [PyData.depthAll]
    | cons n ns ih => simp only [List.map_cons, PyData.depthAll, PyData.depth]; omega
  unfold SeqAt.shaped tupI
  rw [Bool.and_eq_true]
  refine ⟨h1 ns, decide_eq_true ?_⟩
  have := h2 ns
  simp only [PyData.depth]
  omega
end Dl

set_option maxRecDepth 100000
set_option maxHeartbeats 4000000
namespace Dl
open PySem PySem.Spec PyProof.Rows L2 Gd Dt
open Evl (Ex Ex.refl Ex.trans Ex.new ex_l ex_t sq_of st_of fresh_back)

/-- data of moderate size: what a repr and a comparison ask -/
structure Sm (d : PyData) (dep wt : Nat) : Prop where
  lay : d.canLay0 = true
  shrt : d.intsShort 13 = true
  sho : d.showable = true
  nod : d.hasDict = false
  dpt : d.depth ≤ dep
  wgt : d.weight ≤ wt
theorem Sm.up {d : PyData} {a b a' b' : Nat} (h : Sm d a b) (h1 : a ≤ a') (h2 : b ≤ b') : Sm d a' b' := ⟨h.lay, h.shrt, h.sho, h.nod, Nat.le_trans h.dpt h1, Nat.le_trans h.wgt h2⟩
theorem sm_none : Sm .none 0 0 := ⟨rfl, rfl, rfl, rfl, Nat.le_refl _, Nat.le_refl _⟩
theorem sm_bool (b : Bool) : Sm (.bool b) 0 0 := ⟨rfl, rfl, rfl, rfl, Nat.le_refl _, Nat.le_refl _⟩
theorem log_lt {n : Nat} (h : n < 10 ^ 12) : n.log2 < 40 := by
  by_cases e : n = 0
  · subst e
    decide
  · rw [Nat.log2_lt e]
    have : (10 : Nat) ^ 12 < 2 ^ 40 := by decide
    omega
theorem sm_int {i : Int} (h : i.natAbs < 10 ^ 12) : Sm (.int i) 0 40 := by
  have hl := log_lt h
  refine ⟨rfl, ?_, ?_, rfl, Nat.le_refl _, ?_⟩
  · simp only [PyData.intsShort]
    exact decide_eq_true (PyData.shown_int_le h)
  · simp only [PyData.showable]
    exact decide_eq_true (by omega)
  · simp only [PyData.weight]
    split <;> omega
theorem sm_all {dep wt : Nat} : ∀ {ds : List PyData}, (∀ d ∈ ds, Sm d dep wt) → PyData.canLayAll0 ds = true ∧ PyData.intsShortAll 13 ds = true ∧ PyData.showableAll ds = true ∧ PyData.hasDictAll ds = false ∧ PyData.depthAll ds ≤ dep ∧ PyData.weightAll ds ≤ ds.length * (wt + 1)
  | [], _ => ⟨rfl, rfl, rfl, rfl, Nat.zero_le _, Nat.zero_le _⟩
  | d :: ds, h => by
    obtain ⟨a1, a2, a3, a4, a5, a6⟩ := sm_all (ds := ds) fun x hx => h x (List.mem_cons_of_mem _ hx)
    have hd := h d List.mem_cons_self
    refine ⟨?_, ?_, ?_, ?_, ?_, ?_⟩
    · simp only [PyData.canLayAll0, hd.lay, a1, Bool.and_self]
    · simp only [PyData.intsShortAll, hd.shrt, a2, Bool.and_self]
    · simp only [PyData.showableAll, hd.sho, a3, Bool.and_self]
    · simp only [PyData.hasDictAll, hd.nod, a4, Bool.or_self]
    · simp only [PyData.depthAll]
      have := hd.dpt
      omega
    · have := hd.wgt
      simp only [PyData.weightAll, List.length_cons, Nat.succ_mul]
      omega
theorem sm_tup {dep wt : Nat} {ds : List PyData} (h : ∀ d ∈ ds, Sm d dep wt) : Sm (.tuple ds) (dep + 1) (ds.length * (wt + 1)) := by
  obtain ⟨a1, a2, a3, a4, a5, a6⟩ := sm_all h
  refine ⟨by simpa only [PyData.canLay0] using a1, by simpa only [PyData.intsShort] using a2, by simpa only [PyData.showable] using a3, by simpa only [PyData.hasDict] using a4, ?_, by simpa only [PyData.weight] using a6⟩
  simp only [PyData.depth]
  omega
theorem sm_lst {dep wt : Nat} {ds : List PyData} (h : ∀ d ∈ ds, Sm d dep wt) : Sm (.list ds) (dep + 1) (ds.length * (wt + 1)) := by
  obtain ⟨a1, a2, a3, a4, a5, a6⟩ := sm_all h
  refine ⟨by simpa only [PyData.canLay0] using a1, by simpa only [PyData.intsShort] using a2, by simpa only [PyData.showable] using a3, by simpa only [PyData.hasDict] using a4, ?_, by simpa only [PyData.weight] using a6⟩
  simp only [PyData.depth]
  omega
theorem sm_tupI {ns : List Int} (h : ∀ n ∈ ns, n.natAbs < 10 ^ 12) : Sm (tupI ns) 1 (ns.length * 41) := by
  have := sm_tup (dep := 0) (wt := 40) (ds := ns.map .int) fun d hd => by
    obtain ⟨n, hn, rfl⟩ := List.mem_map.mp hd
    exact sm_int (h n hn)
  rw [List.length_map] at this
  exact this
theorem Sm.shaped {d : PyData} {a b : Nat} (h : Sm d a b) (h1 : a ≤ 64 := by decide) : SeqAt.shaped d = true := by
  unfold SeqAt.shaped
  rw [Bool.and_eq_true]
  exact ⟨h.lay, decide_eq_true (Nat.le_trans h.dpt h1)⟩
theorem Sm.repr {K : PySem.W.Frag} {π : Option Pn} {d : PyData} {a b : Nat} (h : Sm d a b) (h1 : a ≤ 40 := by decide) (h2 : b ≤ 2 ^ 20 := by decide) : CbD K π (rRepr K) [d] (· = .str d.shown) :=
  cb_repr h.sho h.nod (Nat.le_trans h.dpt h1) (PyData.shown_fits (B := 13) (by decide) (by decide) (PyData.leavesShort_of_canLay0 13 d h.lay h.shrt) (Nat.le_trans h.wgt h2))
theorem Sm.eqv {d : PyData} {a b : Nat} (h : Sm d a b) : PyData.eqv d d = true := SeqAt.eqv_refl d h.lay
end Dl

/-! words within others: the mathematics alone -/
namespace M1
/-- how many letters at the front are less -/
def seek (l : Int) : List Int → Nat
  | [] => 0
  | x :: xs => if x < l then seek l xs + 1 else 0
theorem seek_le (l : Int) : ∀ xs : List Int, seek l xs ≤ xs.length
  | [] => Nat.le_refl _
  | x :: xs => by
    have := seek_le l xs
    unfold seek
    split
    · rw [List.length_cons]; omega
    · exact Nat.zero_le _
/-- where the letter is found from a place on: the length if it is not -/
def found (o : List Int) (l : Int) (at_ : Nat) : Nat := at_ + seek l (o.drop at_)
def greedy (o : List Int) : List Int → Nat → Option (List Nat)
  | [], _ => some []
  | l :: w, k => if found o l k = o.length then none else (greedy o w (found o l k + 1)).map (found o l k :: ·)
theorem found_le {o : List Int} {l : Int} {k : Nat} (h : k ≤ o.length) : found o l k ≤ o.length := by
  have := seek_le l (o.drop k)
  rw [List.length_drop] at this
  unfold found
  omega
theorem found_ge (o : List Int) (l : Int) (k : Nat) : k ≤ found o l k := Nat.le_add_right _ _
/-- one step of the search -/
theorem found_step {o : List Int} {l x : Int} {k : Nat} (h : o[k]? = some x) (hx : x < l) : found o l k = found o l (k + 1) := by
  obtain ⟨hk, e⟩ := List.getElem?_eq_some_iff.mp h
  unfold found
  rw [List.drop_eq_getElem_cons hk, e]
  show k + (if x < l then seek l (o.drop (k + 1)) + 1 else 0) = _
  rw [if_pos hx]
  omega
theorem found_here {o : List Int} {l x : Int} {k : Nat} (h : o[k]? = some x) (hx : ¬ x < l) : found o l k = k := by
  obtain ⟨hk, e⟩ := List.getElem?_eq_some_iff.mp h
  unfold found
  rw [List.drop_eq_getElem_cons hk, e]
  show k + (if x < l then seek l (o.drop (k + 1)) + 1 else 0) = _
  rw [if_neg hx]
  omega
theorem found_end {o : List Int} {l : Int} : found o l o.length = o.length := by
  unfold found
  rw [List.drop_length]
  rfl
/-- what lies ahead of the place found is less; what lies there is not -/
theorem found_less (o : List Int) (l : Int) : ∀ (n k j : Nat) (x : Int), o.length - k = n → k ≤ j → j < found o l k → o[j]? = some x → x < l := by
  intro n
  induction n with
  | zero =>
    intro k j x hn hk hj hx
    have hj2 := (List.getElem?_eq_some_iff.mp hx).1
    omega
  | succ n ih =>
    intro k j x hn hk hj hx
    have hlt : k < o.length := by omega
    have e := List.getElem?_eq_getElem hlt
    by_cases hx2 : o[k] < l
    · by_cases hjk : j = k
      · subst hjk
        rw [e] at hx
        cases hx
        exact hx2
      · rw [found_step e hx2] at hj
        exact ih (k + 1) j x (by omega) (by omega) hj hx
    · rw [found_here e hx2] at hj
      omega
theorem found_not (o : List Int) (l : Int) : ∀ (n k : Nat), o.length - k = n → k ≤ o.length → found o l k ≠ o.length → ∃ x, o[found o l k]? = some x ∧ ¬ x < l := by
  intro n
  induction n with
  | zero =>
    intro k hn hk hf
    have e : k = o.length := by omega
    subst e
    exact absurd found_end hf
  | succ n ih =>
    intro k hn hk hf
    have hlt : k < o.length := by omega
    have e := List.getElem?_eq_getElem hlt
    by_cases hx : o[k] < l
    · rw [found_step e hx] at hf ⊢
      exact ih (k + 1) (by omega) (by omega) hf
    · rw [found_here e hx]
      exact ⟨_, e, hx⟩
/-! all tuples of places -/
def leastOf (row : List Nat) : Nat := match row.getLast? with
  | none => 0
  | some k => k + 1
theorem leastOf_app (row : List Nat) (k : Nat) : leastOf (row ++ [k]) = k + 1 := by simp [leastOf]
def good (o : List Int) (l : Int) (k : Nat) : Bool := match o[k]? with
  | some x => decide (l ≤ x)
  | none => false
def cand (o : List Int) (l : Int) (lo : Nat) : List Nat := (List.range' lo (o.length - lo)).filter (good o l)
def exts (o : List Int) (l : Int) (row : List Nat) : List (List Nat) := (cand o l (leastOf row)).map fun k => row ++ [k]
def level (o : List Int) (l : Int) (rows : List (List Nat)) : List (List Nat) := rows.flatMap (exts o l)
def allPlaces (o w : List Int) : List (List Nat) := w.foldl (fun rows l => level o l rows) [[]]
theorem cand_mem {o : List Int} {l : Int} {lo k : Nat} (h : k ∈ cand o l lo) : lo ≤ k ∧ k < o.length ∧ good o l k = true := by
  unfold cand at h
  obtain ⟨h1, h2⟩ := List.mem_filter.mp h
  have h3 := List.mem_range'_1.mp h1
  exact ⟨h3.1, by omega, h2⟩
theorem cand_least {o : List Int} {l : Int} {lo k : Nat} (h : k ∈ cand o l lo) : found o l lo ≤ k := by
  obtain ⟨h1, h2, h3⟩ := cand_mem h
  by_cases hk : k < found o l lo
  · exfalso
    have e := List.getElem?_eq_getElem h2
    have := found_less o l _ lo k _ rfl h1 hk e
    unfold good at h3
    rw [e] at h3
    have := of_decide_eq_true h3
    omega
  · omega
/-- the candidates from a place on: none, or the place found and later ones -/
theorem cand_head (o : List Int) (l : Int) : ∀ (n lo : Nat), o.length - lo = n → lo ≤ o.length → (cand o l lo).head? = if found o l lo = o.length then none else some (found o l lo) := by
  intro n
  induction n with
  | zero =>
    intro lo hn hlo
    have e : lo = o.length := by omega
    subst e
    rw [if_pos found_end]
    unfold cand
    rw [Nat.sub_self]
    rfl
  | succ n ih =>
    intro lo hn hlo
    have hlt : lo < o.length := by omega
    have e := List.getElem?_eq_getElem hlt
    have ec : cand o l lo = if good o l lo = true then lo :: cand o l (lo + 1) else cand o l (lo + 1) := by
      unfold cand
      have : o.length - lo = (o.length - (lo + 1)) + 1 := by omega
      rw [this, List.range'_succ, List.filter_cons]
    rw [ec]
    by_cases hx : o[lo] < l
    · have hg : ¬ good o l lo = true := by
        unfold good
        rw [e]
        intro h
        have := of_decide_eq_true h
        omega
      rw [if_neg hg, found_step e hx]
      exact ih (lo + 1) (by omega) (by omega)
    · have hg : good o l lo = true := by
        unfold good
        rw [e]
        exact decide_eq_true (by omega)
      rw [if_pos hg, found_here e hx, if_neg (by omega)]
      rfl
theorem level_nil (o : List Int) (l : Int) : level o l [] = [] := rfl
theorem fold_nil (o : List Int) : ∀ w : List Int, w.foldl (fun rows l => level o l rows) [] = []
  | [] => rfl
  | l :: w => by
    rw [List.foldl_cons, level_nil]
    exact fold_nil o w
theorem cand_empty {o : List Int} {l : Int} {a b : Nat} (hab : a ≤ b) (h : cand o l a = []) : cand o l b = [] := by
  apply List.eq_nil_iff_forall_not_mem.mpr
  intro k hk
  obtain ⟨h1, h2, h3⟩ := cand_mem hk
  have : k ∈ cand o l a := by
    unfold cand
    exact List.mem_filter.mpr ⟨List.mem_range'_1.mpr ⟨by omega, by omega⟩, h3⟩
  rw [h] at this
  cases this
theorem fold_head (o : List Int) : ∀ (w : List Int) (r : List Nat) (rest : List (List Nat)), leastOf r ≤ o.length → (∀ x ∈ rest, leastOf r ≤ leastOf x) →
    (w.foldl (fun rows l => level o l rows) (r :: rest)).head? = (greedy o w (leastOf r)).map (r ++ ·)
  | [], r, rest, _, _ => by simp [greedy]
  | l :: w, r, rest, hr, hm => by
    rw [List.foldl_cons]
    have hh := cand_head o l _ (leastOf r) rfl hr
    by_cases hf : found o l (leastOf r) = o.length
    · rw [if_pos hf] at hh
      have hc : cand o l (leastOf r) = [] := List.head?_eq_none_iff.mp hh
      have he : level o l (r :: rest) = [] := by
        unfold level
        rw [List.flatMap_eq_nil_iff]
        intro x hx
        unfold exts
        rw [List.map_eq_nil_iff]
        rcases List.mem_cons.mp hx with rfl | hx
        · exact hc
        · exact cand_empty (hm x hx) hc
      rw [he, fold_nil]
      simp [greedy, hf]
    · rw [if_neg hf] at hh
      have hfl : found o l (leastOf r) < o.length := by
        have := found_le (o := o) (l := l) hr
        omega
      obtain ⟨tl, htl⟩ : ∃ tl, cand o l (leastOf r) = found o l (leastOf r) :: tl := by
        cases e : cand o l (leastOf r) with
        | nil => rw [e] at hh; cases hh
        | cons a b =>
          rw [e] at hh
          cases hh
          exact ⟨b, rfl⟩
      have he : level o l (r :: rest) = (r ++ [found o l (leastOf r)]) :: (tl.map (fun k => r ++ [k]) ++ level o l rest) := by
        unfold level
        rw [List.flatMap_cons]
        unfold exts
        rw [htl]
        rfl
      rw [he, fold_head o w _ _ (by rw [leastOf_app]; omega) ?_]
      · rw [leastOf_app]
        show _ = (if found o l (leastOf r) = o.length then none else _).map _
        rw [if_neg hf, Option.map_map]
        congr 1
        funext x
        simp
      · intro x hx
        rw [leastOf_app]
        rcases List.mem_append.mp hx with hx | hx
        · obtain ⟨k, hk, rfl⟩ := List.mem_map.mp hx
          rw [leastOf_app]
          have : k ∈ cand o l (leastOf r) := by rw [htl]; exact List.mem_cons_of_mem _ hk
          have := cand_least this
          omega
        · unfold level at hx
          obtain ⟨y, hy, hx⟩ := List.mem_flatMap.mp hx
          unfold exts at hx
          obtain ⟨k, hk, rfl⟩ := List.mem_map.mp hx
          rw [leastOf_app]
          have h1 := cand_mem hk
          have h2 := hm y hy
          have : k ∈ cand o l (leastOf r) := by
            unfold cand
            exact List.mem_filter.mpr ⟨List.mem_range'_1.mpr ⟨by omega, by omega⟩, h1.2.2⟩
          have := cand_least this
          omega
/-- the first of all tuples of places is the one that is found letter by letter -/
theorem first_place (o w : List Int) : (allPlaces o w).head? = greedy o w 0 := by
  unfold allPlaces
  rw [fold_head o w [] [] (Nat.zero_le _) (fun x hx => by cases hx)]
  show (greedy o w 0).map ([] ++ ·) = _
  cases greedy o w 0 <;> rfl
theorem level_len {o : List Int} {l : Int} {rows : List (List Nat)} : (level o l rows).length ≤ rows.length * o.length := by
  unfold level
  induction rows with
  | nil => simp
  | cons r rows ih =>
    rw [List.flatMap_cons, List.length_append, List.length_cons, Nat.succ_mul]
    have : (exts o l r).length ≤ o.length := by
      unfold exts cand
      rw [List.length_map]
      have h1 := List.length_filter_le (good o l) (List.range' (leastOf r) (o.length - leastOf r))
      rw [List.length_range'] at h1
      omega
    omega

/-- the tuples of places of the first letters -/
def pl (o w : List Int) (i : Nat) : List (List Nat) := (w.take i).foldl (fun rows l => level o l rows) [[]]
theorem pl_zero (o w : List Int) : pl o w 0 = [[]] := by
  unfold pl
  rw [List.take_zero]
  rfl
theorem pl_succ {o w : List Int} {i : Nat} {l : Int} (h : w[i]? = some l) : pl o w (i + 1) = level o l (pl o w i) := by
  unfold pl
  rw [List.take_add_one, h, List.foldl_append]
  rfl
theorem pl_end (o w : List Int) : pl o w w.length = allPlaces o w := by
  unfold pl allPlaces
  rw [List.take_length]
theorem pl_row {o w : List Int} : ∀ {i : Nat}, i ≤ w.length → ∀ r ∈ pl o w i, r.length = i
  | 0, _ => fun r hr => by
    rw [pl_zero] at hr
    rw [List.mem_singleton.mp hr]
    rfl
  | i + 1, hi => fun r hr => by
    have e := List.getElem?_eq_getElem (show i < w.length by omega)
    rw [pl_succ e] at hr
    unfold level at hr
    obtain ⟨y, hy, hx⟩ := List.mem_flatMap.mp hr
    unfold exts at hx
    obtain ⟨k, _, rfl⟩ := List.mem_map.mp hx
    rw [List.length_append, List.length_singleton, pl_row (by omega) y hy]
theorem pl_least {o w : List Int} : ∀ {i : Nat}, i ≤ w.length → ∀ r ∈ pl o w i, leastOf r ≤ o.length
  | 0, _ => fun r hr => by
    rw [pl_zero] at hr
    rw [List.mem_singleton.mp hr]
    exact Nat.zero_le _
  | i + 1, hi => fun r hr => by
    have e := List.getElem?_eq_getElem (show i < w.length by omega)
    rw [pl_succ e] at hr
    unfold level at hr
    obtain ⟨y, hy, hx⟩ := List.mem_flatMap.mp hr
    unfold exts at hx
    obtain ⟨k, hk, rfl⟩ := List.mem_map.mp hx
    rw [leastOf_app]
    exact (cand_mem hk).2.1
theorem pl_len {o w : List Int} (ho : o.length ≤ 12) : ∀ {i : Nat}, i ≤ w.length → (pl o w i).length ≤ 12 ^ i
  | 0, _ => by
    rw [pl_zero]
    decide
  | i + 1, hi => by
    have e := List.getElem?_eq_getElem (show i < w.length by omega)
    rw [pl_succ e]
    have h1 := level_len (o := o) (l := w[i]) (rows := pl o w i)
    have h2 := pl_len ho (w := w) (i := i) (by omega)
    have h3 : (pl o w i).length * o.length ≤ 12 ^ i * 12 := Nat.mul_le_mul h2 ho
    rw [Nat.pow_succ]
    omega
theorem level_take {o : List Int} {l : Int} {rows : List (List Nat)} {j : Nat} {r : List Nat} (h : rows[j]? = some r) : level o l (rows.take (j + 1)) = level o l (rows.take j) ++ exts o l r := by
  unfold level
  rw [List.take_add_one, h, List.flatMap_append]
  simp
theorem range'_take (lo n i : Nat) (h : i < n) : (List.range' lo n).take (i + 1) = (List.range' lo n).take i ++ [lo + i] := by
  rw [List.take_add_one, List.getElem?_range' h]
  simp
end M1

set_option maxRecDepth 100000
set_option maxHeartbeats 4000000
namespace K01
open PySem PySem.Spec PyProof.Rows L2 Gd Dt Dl
open Evl (Ex Ex.refl Ex.trans Ex.new ex_l ex_t sq_of st_of fresh_back)
def top (i : Nat) : Stmt := PySem.Challenge.pw_losinglanes_k01_words_within_others.main.body.getD i (.Pass ⟨0, 0, 0, 0⟩)
abbrev sPlace : Stmt := top 1
abbrev sIn : Stmt := top 2
abbrev sAre : Stmt := top 3
section
variable {P : Program} {w : World} {K : PySem.W.Frag} {mg : Str → Option Value} {base : Heap}
/-! ### place_in -/
def tupN (ps : List Nat) : PyData := tupI (ps.map fun n : Nat => (n : Int))
def plD (w o : List Int) : PyData := match M1.greedy o w 0 with
  | none => .none
  | some ps => tupN ps
def wPre : List PyData → Prop := fun ds => ∃ w o : List Int, ds = [tupI w, tupI o] ∧ w.length ≤ 600 ∧ o.length ≤ 600
def plPost : List PyData → DP := fun ds d => ∀ w o, ds = [tupI w, tupI o] → d = plD w o
theorem dps2 {H0 : Hp} {vs : List V} {a b : PyData} (h : DpAll K H0 vs [a, b]) : ∃ x y, vs = [x, y] ∧ Dp K H0 x a ∧ Dp K H0 y b := by
  cases h with
  | cons h1 h2 =>
    obtain ⟨y, rfl, hy⟩ := dps1 h2
    exact ⟨_, y, rfl, h1, hy⟩
theorem tupI_inj {a b : List Int} (h : tupI a = tupI b) : a = b := by
  unfold tupI at h
  injection h with h
  exact (List.map_inj_right (fun x y e => by injection e)).mp h
theorem map_int : ∀ {ns : List Int} {vs : List V} {H0 : Hp}, DpAll K H0 vs (ns.map .int) → vs = ns.map V.int
  | [], _, _, h => by cases h; rfl
  | _ :: _, _, _, h => by
    cases h with
    | cons h1 h2 => rw [dp_int h1, map_int h2]; rfl
theorem dps_int {H0 : Hp} : ∀ ns : List Int, DpAll K H0 (ns.map V.int) (ns.map .int)
  | [] => .nil
  | _ :: ns => .cons (.int _) (dps_int ns)
theorem scPlace : FnScope ["word", "other", "positions", "at", "letter"] ["word", "other"] (defScope sPlace) := ⟨rfl, rfl, rfl, by decide +kernel, rfl, by decide +kernel, by decide +kernel⟩
theorem c_place {f : Addr} {fd : FuncData} (F : Fun K "place_in" "place_in" sPlace f fd) (m : mg "place_in" = some (.ref f)) (B : Blt mg) : Cal P w K mg base "place_in" 1 ["word", "other"] (spD K wPre plPost) := by
  refine ⟨f, fd, F.ok scPlace (fun vs H Q E h => ?_) (fun cdv A outer s H vs Q E hr h => ?_), m, F.kp, F.binds (ps := ["word", "other"]) fun _ _ _ _ _ _ us hl => match us, hl with | [_, _], _ => rfl⟩
  · obtain ⟨H0, ds, hd, ⟨w, o, rfl, _⟩, _⟩ := h
    exact dps_len hd
  obtain ⟨H0, ds, hd, ⟨w, o, rfl, hw, ho⟩, o0, q⟩ := h
  obtain ⟨vw, vo, rfl, dw, d_o⟩ := dps2 hd
  have nd := scPlace.nd
  refine ⟨_, (pss_cons (ps_set (i := 2) nd rfl (Or.inl rfl) (pe_lst pa_nil))
    (pss_cons (ps_set (i := 3) nd rfl (Or.inl rfl) pe_int)
    (pss_cons (ps_for PassesOwn.never rfl (pi_tup (pv 0)) (pg_name (i := 4) nd rfl (Or.inl rfl)) (pss_cons (ps_while PassesOwn.never (PW.pt (pw_and (pt_cmpR op_lt (pv 3) (pe_callB (call_len_seq) (by rfl) B.len (by decide +kernel) (pa_cons (pv 1) pa_nil)) (nomark _)) (pw_and1 (pt_cmpR op_lt (pe_ix ix_tup (pv 1) (pv 3) (fun _ _ => rfl)) (pv 4) (nomark _))))) (pss_one (ps_aug (i := 3) nd rfl (Or.inl rfl) pe_int ip_add)))
    (pss_cons (ps_if (pt_cmpR op_eq (pv 3) (pe_callB (call_len_seq) (by rfl) B.len (by decide +kernel) (pa_cons (pv 1) pa_nil)) (nomark _)) (pss_one (ps_ret pe_non)) pss_nil)
    (pss_cons (ps_expr (pe_bm PySem.F.plainAttrs_list PySem.F.slot_list_append PySem.F.type_list_append mt_append (pv 2) (pa_cons (pv 3) pa_nil)))
    (pss_one (ps_aug (i := 3) nd rfl (Or.inl rfl) pe_int ip_add))))))
    (pss_one (ps_ret (pe_callTy call_tuple_of (by rfl) B.tuple (by decide +kernel) (pa_cons (pv 2) pa_nil))))))), ?_⟩
  refine q_new (fun l hl => ?_)
  have h0l : H0 l = none := fresh_back o0.ex hl
  have s0 : Stp K none H0 H H0 (upd H l (.lst [])) := o0.stp.mut o0 hl h0l
  refine q_for (Φx := (· = w.map .int)) (ei_tup (ed_var rfl dw)) (s0.okk o0) tg1 (fun _ _ _ _ => trivial)
    (fun xs i σ' M' H' => ∃ (a : Nat) (ps : List Nat) (lv : Option V), σ' = [some vw, some vo, some (.ref l), some (.int (a : Int)), lv] ∧ Stp K none H0 H M' H' ∧ M' l = none ∧ H' l = some (.lst ((ps.map fun n : Nat => (n : Int)).map V.int)) ∧
      M1.greedy o w 0 = (M1.greedy o (w.drop i) a).map (ps ++ ·) ∧ a ≤ o.length ∧ ps.length ≤ i) ?_ ?_ ?_ ?_
  · rintro xs i σ' M' H' ⟨a, ps, lv, rfl, s1, _⟩
    exact s1.okk o0
  · rintro xs N H2 rfl s1
    exact ⟨0, [], none, rfl, s0.trans s1 o0, s1.out h0l (by rw [upd_same]; exact fun z => by cases z), s1.off l _ (fun q z => by cases z) upd_same, by simp, Nat.zero_le _, Nat.zero_le _⟩
  · rintro xs i d σ' M' H' M2 H2 σ2 rfl e1 ⟨a, ps, lv, rfl, s1, m1, h1, hg, ha, hpl⟩ s2 ed ⟨x, kx, rfl⟩
    rw [List.getElem?_map] at ed
    obtain ⟨li, hli, rfl⟩ : ∃ li, w[i]? = some li ∧ d = .int li := by
      cases e : w[i]? with
      | none => rw [e] at ed; cases ed
      | some li =>
        rw [e] at ed
        exact ⟨li, rfl, (Option.some.inj ed).symm⟩
    have hil : i < w.length := (List.getElem?_eq_some_iff.mp hli).1
    rw [dp_int kx]
    have oM := s1.okk o0
    have nl : ∀ q : Pn, none = some q → l ≠ q.p := fun q z => by cases z
    have hdrop : w.drop i = li :: w.drop (i + 1) := by
      rw [List.drop_eq_getElem_cons hil]
      rw [(List.getElem?_eq_some_iff.mp hli).2]
    refine q_while (π := none) (K := K) (fun m σ3 M3 H3 => ∃ b : Nat, σ3 = [some vw, some vo, some (.ref l), some (.int (b : Int)), some (.int li)] ∧ Ex M' M3 ∧ Stp K none H0 H M3 H3 ∧ M3 l = none ∧ H3 l = some (.lst ((ps.map fun n : Nat => (n : Int)).map V.int)) ∧
      M1.found o li b = M1.found o li a ∧ b ≤ o.length ∧ m = o.length - b) (o.length - a) ?_ ⟨a, rfl, s2.ex, s1.trans s2 o0, s2.out m1 (by rw [h1]; exact fun z => by cases z), s2.off l _ nl h1, rfl, ha, rfl⟩ ?_
    · rintro m σ3 M3 H3 ⟨b, rfl, _, s3, _⟩
      exact s3.okk o0
    rintro m σ3 M3 H3 ⟨b, rfl, e3, s3, m3, h3, hf, hb, rfl⟩
    have o3 := s3.okk o0
    have dO : Dp K M3 vo (tupI o) := dp_ex s3.ex d_o
    have hlen : (o.map PyData.int).length = o.length := List.length_map _
    refine ⟨decide (((b : Nat) : Int) < (((o.map PyData.int).length : Nat) : Int)) && (match o[b]? with | some y => decide (y < li) | none => false),
      eb_and' (eb_t (ed_op' (ed_var rfl (.int _)) (ed_cb' (el_c (ed_var rfl dO) el_nil) cb_lenT) od_lt)) (fun hc => ?_), ?_, ?_⟩
    · have hbl : b < o.length := by
        have := of_decide_eq_true hc
        rw [hlen] at this
        omega
      have ey := List.getElem?_eq_getElem hbl
      rw [ey]
      exact eb_t (ed_op' (ed_op' (ed_var rfl dO) (ed_var rfl (.int _)) (od_ixT (d := .int o[b]) (atI_nat (by rw [List.getElem?_map, ey]; rfl)))) (ed_var rfl (.int _)) od_lt)
    · intro hc M4 H4 s4
      rw [Bool.and_eq_true] at hc
      have hbl : b < o.length := by
        have := of_decide_eq_true hc.1
        rw [hlen] at this
        omega
      have ey := List.getElem?_eq_getElem hbl
      have hx := hc.2
      rw [ey] at hx
      refine ⟨_, rfl, _, _, rfl, rfl, ?_⟩
      refine ⟨o.length - (b + 1), M4, by omega, b + 1, rfl, e3.trans s4.ex, s3.trans s4 o0, s4.out m3 (by rw [h3]; exact fun z => by cases z), s4.off l _ nl h3, ?_, hbl, rfl⟩
      rw [← hf, M1.found_step ey (of_decide_eq_true hx)]
    intro hc M4 H4 s4
    have h4 := s4.off l _ nl h3
    have m4 := s4.out m3 (by rw [h3]; exact fun z => by cases z)
    have S4 := s3.trans s4 o0
    have hfb : M1.found o li a = b := by
      rw [← hf]
      by_cases hbl : b < o.length
      · have ey := List.getElem?_eq_getElem hbl
        apply M1.found_here ey
        intro hx
        have h1 : decide (((b : Nat) : Int) < (((o.map PyData.int).length : Nat) : Int)) = true := decide_eq_true (by rw [hlen]; omega)
        rw [h1, ey] at hc
        have hc : decide (o[b] < li) = false := hc
        rw [decide_eq_true hx] at hc
        cases hc
      · have eb : b = o.length := by omega
        rw [eb]
        exact M1.found_end
    refine q_when (K := K) (π := none) (eb_t (ed_op' (ed_var rfl (.int _)) (ed_cb' (el_c (ed_var rfl (dp_ex s4.ex dO)) el_nil) cb_lenT) od_eqI)) (S4.okk o0) (fun hb2 M5 H5 s5 => ?_) (fun hb2 M5 H5 s5 => ?_)
    · have hbl : b = o.length := by
        have := of_decide_eq_true hb2.symm
        rw [hlen] at this
        omega
      have S5 := S4.trans s5 o0
      refine s_ret (K := K) (π := none) ed_n (S5.okk o0) (q.go o0 S5 fun d e => ?_)
      rintro w' o' he
      injection he with e1 e2
      injection e2 with e2 _
      rw [← tupI_inj e1, ← tupI_inj e2, e]
      unfold plD
      rw [hg, hdrop]
      show PyData.none = match (if M1.found o li a = o.length then none else _).map (ps ++ ·) with | none => .none | some ps => tupN ps
      rw [if_pos (by rw [hfb, hbl])]
      rfl
    · have hbl : b ≠ o.length := fun z => by
        have := of_decide_eq_false hb2.symm
        rw [hlen] at this
        omega
      have S5 := S4.trans s5 o0
      have h5 := s5.off l _ nl h4
      have m5 := s5.out m4 (by rw [h4]; exact fun z => by cases z)
      show tDrop _ { nx := _, rt := _, bk := _, ct := _ } _ _
      refine s_app (K := K) (π := none) (i := 2) rfl h5 nl (by rw [List.length_map, List.length_map]; omega) (ed_var rfl (.int _)) (S5.okk o0) fun v d M6 H6 ev s6 kv h6 => ?_
      subst ev
      rw [dp_int kv]
      have S6 := S5.trans s6 o0
      have m6 := s6.out m5 (by rw [h5]; exact fun z => by cases z)
      refine ⟨_, rfl, _, _, rfl, rfl, M6, e3.trans (s4.ex.trans (s5.ex.trans s6.ex)), b + 1, ps ++ [b], some (.int li), rfl, S6.mut o0 hl m6, m6, ?_, ?_, by omega, by rw [List.length_append, List.length_singleton]; omega⟩
      · rw [upd_same]
        simp
      · rw [hg, hdrop]
        show (if M1.found o li a = o.length then none else (M1.greedy o (w.drop (i + 1)) (M1.found o li a + 1)).map (M1.found o li a :: ·)).map (ps ++ ·) = _
        rw [if_neg (by rw [hfb]; exact hbl), hfb, Option.map_map]
        congr 1
        funext x
        simp
  · rintro xs σ' M' H' rfl e1 ⟨a, ps, lv, rfl, s1, m1, h1, hg, ha, hpl⟩
    have sF := s1.freeze hl m1 h1
    have dF : Dp K (upd M' l (.lst ((ps.map fun n : Nat => (n : Int)).map V.int))) (.ref l) (.list ((ps.map fun n : Nat => (n : Int)).map .int)) := .lst (sq_of upd_same) (dps_int _)
    refine s_ret (Φ := (· = tupN ps)) (ed_cb' (el_c (ed_var rfl dF) el_nil) cb_tupL) (sF.okk o0) (q.go o0 sF fun d e => ?_)
    rintro w' o' he
    injection he with e1 e2
    injection e2 with e2 _
    rw [← tupI_inj e1, ← tupI_inj e2, e]
    unfold plD
    rw [hg, List.length_map, List.drop_length]
    simp [M1.greedy]

/-! ### is_within, are_within -/
def inB (w o : List Int) : Bool := (M1.greedy o w 0).isSome
def inPost : List PyData → DP := fun ds d => ∀ w o, ds = [tupI w, tupI o] → d = .bool (inB w o)
theorem two_inj {w o w' o' : List Int} (he : ([tupI w, tupI o] : List PyData) = [tupI w', tupI o']) : w = w' ∧ o = o' := by
  injection he with e1 e2
  injection e2 with e2 _
  exact ⟨tupI_inj e1, tupI_inj e2⟩
theorem plD_some (w o : List Int) : notNone (plD w o) = inB w o := by
  unfold plD inB
  cases M1.greedy o w 0 <;> rfl
theorem scIn : FnScope ["word", "other"] ["word", "other"] (defScope sIn) := ⟨rfl, rfl, rfl, by decide +kernel, rfl, by decide +kernel, by decide +kernel⟩
theorem c_in {f : Addr} {fd : FuncData} (F : Fun K "is_within" "is_within" sIn f fd) (m : mg "is_within" = some (.ref f)) (Cplace_in : Cal P w K mg base "place_in" 1 ["word", "other"] (spD K wPre plPost)) :
    Cal P w K mg base "is_within" 2 ["word", "other"] (spD K wPre inPost) := by
  refine ⟨f, fd, F.ok scIn (fun vs H Q E h => ?_) (fun cdv A outer s H vs Q E hr h => ?_), m, F.kp, F.binds (ps := ["word", "other"]) fun _ _ _ _ _ _ us hl => match us, hl with | [_, _], _ => rfl⟩
  · obtain ⟨H0, ds, hd, ⟨w, o, rfl, _⟩, _⟩ := h
    exact dps_len hd
  obtain ⟨H0, ds, hd, ⟨w, o, rfl, hw, ho⟩, o0, q⟩ := h
  obtain ⟨vw, vo, rfl, dw, d_o⟩ := dps2 hd
  have nd := scIn.nd
  refine ⟨_, (pss_one (ps_ret (pe_cmp (pc_notN (pe_c Cplace_in (hr.mono (by decide)) rfl (pa_cons (pv 0) (pa_cons (pv 1) pa_nil))))))), ?_⟩
  refine s_ret (K := K) (π := none) (ed_notN (Φ := (· = plD w o)) (ed_call (Φl := (· = [tupI w, tupI o])) (el_c (ed_var rfl dw) (el_c (ed_var rfl d_o) el_nil)) (fun ds e => ⟨w, o, e, hw, ho⟩) (fun ds d e hp => hp w o e))) o0 (q.go o0 o0.stp fun d e => ?_)
  rintro w' o' he
  obtain ⟨rfl, rfl⟩ := two_inj he
  obtain ⟨x, rfl, rfl⟩ := e
  rw [plD_some]
def rowsPre : List PyData → Prop := fun ds => ∃ ws os : List (List Int), ds = [.tuple (ws.map tupI), .tuple (os.map tupI)] ∧ ws.length ≤ 1000 ∧ (∀ w ∈ ws, w.length ≤ 600) ∧ ∀ o ∈ os, o.length ≤ 600
def rowsB (ws os : List (List Int)) : List Bool := List.zipWith inB ws os
def rowsPost : List PyData → DP := fun ds d => ∀ ws os, ds = [.tuple (ws.map tupI), .tuple (os.map tupI)] → d = .bool ((rowsB ws os).all id)
theorem tup_inj {ws os : List (List Int)} (h : PyData.tuple (ws.map tupI) = PyData.tuple (os.map tupI)) : ws = os := by
  injection h with h
  exact (List.map_inj_right (fun x y e => tupI_inj e)).mp h
theorem scAre : FnScope ["words", "others", "word", "other"] ["words", "others"] (defScope sAre) := ⟨rfl, rfl, rfl, by decide +kernel, rfl, by decide +kernel, by decide +kernel⟩
theorem c_are {f : Addr} {fd : FuncData} (F : Fun K "are_within" "are_within" sAre f fd) (m : mg "are_within" = some (.ref f)) (B : Blt mg) (Cis_within : Cal P w K mg base "is_within" 2 ["word", "other"] (spD K wPre inPost)) :
    Cal P w K mg base "are_within" 3 ["words", "others"] (spD K rowsPre rowsPost) := by
  refine ⟨f, fd, F.ok scAre (fun vs H Q E h => ?_) (fun cdv A outer s H vs Q E hr h => ?_), m, F.kp, F.binds (ps := ["words", "others"]) fun _ _ _ _ _ _ us hl => match us, hl with | [_, _], _ => rfl⟩
  · obtain ⟨H0, ds, hd, ⟨w, o, rfl, _⟩, _⟩ := h
    exact dps_len hd
  obtain ⟨H0, ds, hd, ⟨ws, os, rfl, hz, hw, ho⟩, o0, q⟩ := h
  obtain ⟨vw, vo, rfl, dw, d_o⟩ := dps2 hd
  have nd := scAre.nd
  refine ⟨_, (pss_one (ps_ret (pe_callB (cr_all rfl) (by rfl) B.all (by decide +kernel) (pa_cons (pe_lc (own := [("word", 2), ("other", 3)]) (g := (gTup K 2 (gCons (gName 2) (gCons (gName 3) gNil)))) (tt := tYes) (te := (tCall (spD K wPre inPost) [] E0 (tCons (tVar 2) (tCons (tVar 3) tNil)))) rfl nd (RZ.pi_zipA rfl B.zip (pa_cons (pv 0) (pa_cons (pv 1) pa_nil))) (blkOk_by (own := [("word", 2), ("other", 3)]) (N := ["words", "others", "word", "other"]) (sc := defScope sAre) (by decide +kernel)) (fun _ _ _ _ _ => pg_tup rfl (pgs_cons (pg_name (i := 2) nd rfl (Or.inl rfl)) (pgs_cons (pg_name (i := 3) nd rfl (Or.inl rfl)) pgs_nil))) (fun _ _ _ _ _ => pts_nil) (fun _ _ _ _ _ => (pe_c Cis_within (hr.mono (by decide)) rfl (pa_cons (pv 2) (pa_cons (pv 3) pa_nil))))) pa_nil)))), ?_⟩
  have hlen : (pairs (ws.map tupI) (os.map tupI)).length = (rowsB ws os).length := by simp [pairs, rowsB]
  have hle : (rowsB ws os).length ≤ 1000 := by
    simp only [rowsB, List.length_zipWith]
    omega
  refine s_ret (K := K) (π := none) (Φ := (· = .bool ((rowsB ws os).all id))) (ed_cb' (ds := [.list ((rowsB ws os).map .bool)]) (el_c (EvF.ed (Φl := (· = (rowsB ws os).map .bool))
    (ef_lc (Φx := (· = pairs (ws.map tupI) (os.map tupI))) (T := T2 K 2 3) (ei_zipT (el_c (ed_var rfl dw) (el_c (ed_var rfl d_o) el_nil))) tg2 ?_ ?_ ?_ (fun xs i acc => acc = ((rowsB ws os).take i).map .bool) ?_ ?_ ?_) (fun ds e => by rw [e])) el_nil) cb_all) o0 (q.go o0 o0.stp fun d e => ?_)
  · rintro xs d rfl hd
    obtain ⟨i, hi⟩ := List.mem_iff_getElem?.mp hd
    obtain ⟨x, y, _, _, rfl⟩ := pairs_of hi
    exact ⟨x, y, rfl⟩
  · rintro xs rfl
    omega
  · rintro d M σ' ⟨a, b, x, y, _, _, _, rfl⟩
    rfl
  · rintro xs rfl
    rfl
  · rintro xs i d acc M σ' rfl ed e1 ⟨a, b, x, y, rfl, kx, ky, rfl⟩ rfl
    obtain ⟨x', y', ex, ey, e2⟩ := pairs_of ed
    injection e2 with e2
    injection e2 with e3 e2
    injection e2 with e4 _
    subst e3 e4
    rw [List.getElem?_map] at ex ey
    obtain ⟨wi, hwi, rfl⟩ := Option.map_eq_some_iff.mp ex
    obtain ⟨oi, hoi, rfl⟩ := Option.map_eq_some_iff.mp ey
    have hb : (rowsB ws os)[i]? = some (inB wi oi) := by
      unfold rowsB
      rw [List.getElem?_zipWith, hwi, hoi]
    refine ⟨(· = true), eb_yes, fun _ => ?_, fun h => by cases h⟩
    refine (ed_call (Φ := (· = .bool (inB wi oi))) (Φl := (· = [tupI wi, tupI oi])) (el_c (ed_var rfl kx) (el_c (ed_var rfl ky) el_nil)) (fun ds e => ⟨wi, oi, e, hw _ (List.mem_of_getElem? hwi), ho _ (List.mem_of_getElem? hoi)⟩) (fun ds d e hp => hp wi oi e)).imp fun y e => ?_
    rw [e, List.take_succ, hb]
    simp
  · rintro xs acc rfl e
    rw [e, hlen, List.take_length]
  · rintro w' o' he
    injection he with e1 e2
    injection e2 with e2 _
    rw [← tup_inj e1, ← tup_inj e2, e]
end
end K01

set_option maxRecDepth 100000
set_option maxHeartbeats 4000000
namespace K01
open PySem PySem.Spec PyProof.Rows L2 Gd Dt Dl
open Evl (Ex Ex.refl Ex.trans Ex.new ex_l ex_t sq_of st_of fresh_back)
abbrev sPen : Stmt := top 5
abbrev sFresh : Stmt := top 6
abbrev sDraw : Stmt := top 7
section
variable {P : Program} {w : World} {K : PySem.W.Frag} {mg : Str → Option Value} {base : Heap}
/-! ### the pen -/
def spPen (K : PySem.W.Frag) : Sp := fun vs H Q _ => ∃ (a : Addr) (ns : List Int), vs = [.ref a] ∧ SqL K H a (ns.map V.int) ∧ ns.length ≤ 63 ∧ ∀ (q : Pn) (H' : Hp), Okk K (some q) H H' → Q (.ref q.p) H'
theorem take_ints (ns : List Int) (hn : ns.length ≤ 63) : cutV (ns.map V.int) none (some 63) = ns.map V.int := by
  unfold cutV
  have h1 : HT.sIx (ns.map V.int).length 0 none = 0 := rfl
  have h2 : HT.sIx (ns.map V.int).length (ns.map V.int).length (some 63) = min 63 (ns.map V.int).length := HT.sIx_nat _ _ 63
  rw [h1, h2, List.length_map, Nat.min_eq_right hn, List.drop_zero, Nat.sub_zero]
  exact List.take_of_length_le (by rw [List.length_map]; exact Nat.le_refl _)
theorem scPen : FnScope ["script"] ["script"] (defScope sPen) := ⟨rfl, rfl, rfl, by decide +kernel, rfl, by decide +kernel, by decide +kernel⟩
theorem c_pen {f : Addr} {fd : FuncData} (F : Fun K "_law_pen" "_law_pen" sPen f fd) (m : mg "_law_pen" = some (.ref f)) (B : Blt mg) : Cal P w K mg base "_law_pen" 1 ["script"] (spPen K) := by
  refine ⟨f, fd, F.ok scPen (fun vs H Q E h => ?_) (fun cdv A outer s H vs Q E hr h => ?_), m, F.kp, F.binds (ps := ["script"]) fun _ _ _ _ _ _ us hl => match us, hl with | [_], _ => rfl⟩
  · obtain ⟨a, ns, rfl, _⟩ := h
    rfl
  obtain ⟨a, ns, rfl, hs, hn, q⟩ := h
  have nd := scPen.nd
  refine ⟨_, (pss_one (ps_ret (pe_lst (pa_cons (pe_callTy call_list_of (by rfl) B.list (by decide +kernel) (pa_cons (pe_slice sl_list (pv 0) po_none (po_some pe_int)) pa_nil)) (pa_cons pe_int (pa_cons pe_int pa_nil)))))), ?_⟩
  refine ⟨_, rfl, 63, rfl, a, _, rfl, hs, fun c hc => ?_⟩
  rw [take_ints ns hn]
  refine ⟨c, _, rfl, .inl (sq_of upd_same), fun g hg => ⟨by show 3 ≤ sizeLine; decide, fun p hp => ?_⟩⟩
  have e1 : Ex H (upd H c (.lst (ns.map V.int))) := Ex.new hc
  have e2 := e1.trans (Ex.new (o := .lst (ns.map V.int)) hg)
  have ngp : g ≠ p := fun z => by
    rw [← z, upd_same] at hp
    cases hp
  refine q ⟨p, g, ns⟩ _ ⟨e2.trans (Ex.new hp), fun q' e => ?_⟩
  cases e
  exact ⟨fresh_back e2 hp, ⟨⟨0, 0, upd_same⟩, sq_of (by rw [upd_ne ngp]; exact upd_same), ngp, hn⟩⟩

/-! ### the next great number -/
def lstI (ns : List Int) : PyData := .list (ns.map .int)
theorem shaped_lstI (ns : List Int) : SeqAt.shaped (lstI ns) = true := shaped_tupI ns
theorem cb_int {π : Option Pn} {i : Int} : CbD K π (fun xs H Q => (∃ i, xs = [.int i] ∧ Q (.int i) H) ∨ ∃ k, xs = [.bl k] ∧ Q (.int (if k then 1 else 0)) H) [.int i] (· = .int i) := fun vs H0 H1 h o Q q => by
  obtain ⟨v, rfl, hv⟩ := dps1 h
  rw [dp_int hv]
  exact .inl ⟨i, rfl, q _ _ H0 H1 rfl o.stp (.int _)⟩
theorem od_mod {π : Option Pn} {i j : Int} (h : 0 < j) : OpD K π (rI (fun _ j => 0 < j) fun i j => .int (i % j)) (.int i) (.int j) (· = .int (i % j)) := od_I h fun _ => .int _
theorem od_pow {π : Option Pn} {i j : Int} (h : CPow i j) : OpD K π (rI CPow fun i j => .int (i ^ j.toNat)) (.int i) (.int j) (· = .int (i ^ j.toNat)) := od_I h fun _ => .int _
def freshPre : List PyData → Prop := fun ds => ds = []
def freshPost : List PyData → DP := fun _ d => ∃ z : Int, d = .int z
/-- the pen's cells are changed: the core stays -/
theorem okk_pen {q : Pn} {H0 H1 : Hp} {a b : Int} (o : Okk K (some q) H0 H1) : Stp K (some q) H0 H1 H0 (upd H1 q.p (.lst [.ref q.g, .int a, .int b])) := by
  obtain ⟨h0, pn⟩ := o.pen q rfl
  refine ⟨Ex.refl _, fun x h => .inl h, fun x u h => ?_, fun x u n h => ?_, fun q' e => ?_⟩
  · rw [upd_ne (fun z => by rw [z, h0] at h; cases h)]
    exact o.ex _ _ h
  · rw [upd_ne (n q rfl)]
    exact h
  · cases e
    refine ⟨⟨a, b, upd_same⟩, ?_, pn.ne, pn.few⟩
    rcases pn.given with (h | ⟨ob, h⟩) | h
    · exact .inl (.inl (by rw [upd_ne pn.ne]; exact h))
    · exact .inl (.inr ⟨ob, by rw [upd_ne pn.ne]; exact h⟩)
    · exact .inr h
theorem stp_some {q : Pn} {H0 H1 H2 H0' : Hp} (o : Okk K (some q) H0 H1) (s : Stp K none H1 H1 H0' H2) : Stp K (some q) H0 H1 H0 H2 := by
  have e : Ex H1 H2 := fun a u h => s.off a u (fun q z => by cases z) h
  exact o.more e
theorem scFresh : FnScope ["pen", "seat", "given", "cell", "prime", "state", "found", "lap"] ["pen"] (defScope sFresh) := ⟨rfl, rfl, rfl, by decide +kernel, rfl, by decide +kernel, by decide +kernel⟩
theorem c_fresh {f : Addr} {fd : FuncData} (F : Fun K "_law_fresh" "_law_fresh" sFresh f fd) (m : mg "_law_fresh" = some (.ref f)) (B : Blt mg) : Cal P w K mg base "_law_fresh" 1 ["pen"] (spP K freshPre freshPost) := by
  refine ⟨f, fd, F.ok scFresh (fun vs H Q E h => ?_) (fun cdv A outer s H vs Q E hr h => ?_), m, F.kp, F.binds (ps := ["pen"]) fun _ _ _ _ _ _ us hl => match us, hl with | [_], _ => rfl⟩
  · obtain ⟨q, H0, ws, ds, rfl, hd, rfl, _⟩ := h
    cases hd
    rfl
  obtain ⟨q, H0, ws, ds, rfl, hd, rfl, o0, k⟩ := h
  cases hd
  have nd := scFresh.nd
  refine ⟨_, (pss_cons (ps_par (i := 1) (j := 2) rfl nd rfl rfl (by decide) rfl rfl (pa_cons (pe_ix ix_list (pv 0) pe_int (fun _ _ => rfl)) (pa_cons (pe_ix ix_list (pv 0) pe_int (fun _ _ => rfl)) pa_nil)) (by rfl))
    (pss_cons (ps_asg (pe_op op_add (pv 1) pe_int) (pg_sub (pv 0) pe_int set_list))
    (pss_cons (ps_set (i := 3) nd rfl (Or.inl rfl) (pe_ifExp (pt_cmpR (op_neD hr.units) (pv 2) (pe_lst pa_nil) (nomark _)) (pe_ix ix_list (pv 2) (pe_op op_mod (pe_callTy call_int1 (by rfl) B.int (by decide +kernel) (pa_cons (pv 1) pa_nil)) (pe_callB (call_len_seq) (by rfl) B.len (by decide +kernel) (pa_cons (pv 2) pa_nil))) (fun _ _ => rfl)) pe_int))
    (pss_cons (ps_if (PW.pt (pw_and (pt_cmpR op_lt (pv 1) (pe_callB (call_len_seq) (by rfl) B.len (by decide +kernel) (pa_cons (pv 2) pa_nil)) (nomark _)) (pw_and1 (pt_cmpR op_ge (pv 3) (pe_op op_pow pe_int pe_int) (nomark _))))) (pss_one (ps_ret (pe_op op_sub (pv 3) (pe_op op_pow pe_int pe_int)))) pss_nil)
    (pss_cons (ps_set (i := 4) nd rfl (Or.inl rfl) pe_int)
    (pss_cons (ps_set (i := 5) nd rfl (Or.inl rfl) (pe_op op_mod (pe_callTy call_int1 (by rfl) B.int (by decide +kernel) (pa_cons (pe_op op_add (pe_op op_add (pe_op op_mul (pv 3) pe_int) (pe_op op_mul pe_int (pv 1))) pe_int) pa_nil)) (pv 4)))
    (pss_cons (ps_set (i := 6) nd rfl (Or.inl rfl) (pv 5))
    (pss_cons (ps_for PassesOwn.never rfl (pi_range1 rfl B.range (pa_cons pe_int pa_nil)) (pg_name (i := 7) nd rfl (Or.inl rfl)) (pss_cons (ps_set (i := 5) nd rfl (Or.inl rfl) (pe_op op_mod (pe_callTy call_int1 (by rfl) B.int (by decide +kernel) (pa_cons (pe_op op_add (pe_op op_add (pe_op op_mul (pv 5) (pv 5)) (pe_op op_mul (pe_op op_mul pe_int (pe_op op_add (pv 7) pe_int)) (pe_op op_add (pv 1) pe_int))) (pv 3)) pa_nil)) (pv 4)))
    (pss_one (ps_set (i := 6) nd rfl (Or.inl rfl) (pe_op op_add (pe_op op_mul (pv 6) (pv 4)) (pv 5))))))
    (pss_one (ps_ret (pv 6))))))))))), ?_⟩
  obtain ⟨h0, pn⟩ := o0.pen q rfl
  obtain ⟨seat, left, hc⟩ := pn.cells
  refine ⟨_, rfl, q.p, _, 1, .int seat, rfl, rfl, sq_of hc, rfl, _, rfl, q.p, _, 0, .ref q.g, rfl, rfl, sq_of hc, rfl, _, _, rfl, ?_⟩
  refine ⟨_, rfl, _, _, rfl, rfl, _, rfl, q.p, _, 1, 1, rfl, rfl, hc, rfl, ?_⟩
  have s1 : Stp K (some q) H0 H H0 (upd H q.p (.lst [.ref q.g, .int (seat + 1), .int left])) := okk_pen o0
  have o1 := s1.okk o0
  have fin : ∀ {M' H' : Hp}, Stp K none (upd H q.p (.lst [.ref q.g, .int (seat + 1), .int left])) (upd H q.p (.lst [.ref q.g, .int (seat + 1), .int left])) M' H' → Stp K (some q) H0 H H0 H' := fun s => s1.trans (stp_some o1 s) o0
  show tSeq _ _ _ _ (upd H q.p (.lst [.ref q.g, .int (seat + 1), .int left]))
  generalize hH1 : upd H q.p (.lst [.ref q.g, .int (seat + 1), .int left]) = H1 at fin o1
  have oc : Okk K none H1 H1 := Okk.refl rfl
  have dg : Dp K H1 (.ref q.g) (lstI q.ns) := .lst (o1.pen q rfl).2.given (dps_int q.ns)
  have hlen : (q.ns.map PyData.int).length = q.ns.length := List.length_map _
  refine q_asg (K := K) (π := none) (M := H1) (Φ := fun d => ∃ c : Int, d = .int c) (ed_if (Φb := fun b => b = true → q.ns ≠ []) ((eb_t (ed_op' (ed_var rfl dg) (ed_l el_nil) (od_neD (shaped_lstI _) (shaped_lstI [])))).imp fun b e hb hn => ?_) (fun hne => ?_) (fun _ => ed_i.imp fun d e => ⟨0, e⟩)) oc fun v d M2 H2 hd s2 kv => ?_
  · rw [hb, hn] at e
    cases e
  · have hne := hne rfl
    have hpos : (0 : Int) < ((q.ns.map PyData.int).length : Nat) := by
      rw [hlen]
      have := List.length_pos_iff.mpr hne
      omega
    have hm0 : 0 ≤ seat % ((q.ns.map PyData.int).length : Nat) := Int.emod_nonneg _ (by omega)
    have hm1 : seat % ((q.ns.map PyData.int).length : Nat) < ((q.ns.map PyData.int).length : Nat) := Int.emod_lt_of_pos _ hpos
    obtain ⟨c, hat⟩ : ∃ c : Int, atI (q.ns.map PyData.int) (seat % ((q.ns.map PyData.int).length : Nat)) = some (.int c) := by
      generalize seat % ((q.ns.map PyData.int).length : Nat) = z at hm0 hm1
      obtain ⟨n, rfl⟩ := Int.eq_ofNat_of_zero_le hm0
      have hn : n < q.ns.length := by omega
      refine ⟨q.ns[n], atI_nat ?_⟩
      rw [List.getElem?_map, List.getElem?_eq_getElem hn]
      rfl
    exact (ed_op' (ed_var rfl dg) (ed_op' (ed_cb' (el_c (ed_var rfl (.int _)) el_nil) cb_int) (ed_cb' (el_c (ed_var rfl dg) el_nil) cb_lenL) (od_mod hpos)) (od_ixL hat)).imp fun d e => ⟨_, e⟩
  obtain ⟨c, rfl⟩ := hd
  rw [dp_int kv]
  have o2 := s2.okk oc
  refine q_when (K := K) (π := none) (M := M2) (eb_and' (eb_t (ed_op' (ed_var rfl (.int _)) (ed_cb' (el_c (ed_var rfl (dp_ex s2.ex dg)) el_nil) cb_lenL) od_lt)) (fun _ => eb_t (ed_op' (ed_var rfl (.int _)) (ed_op' ed_i ed_i (od_pow ⟨by decide, by decide, by decide⟩)) od_ge))) o2 (fun _ M3 H3 s3 => ?_) (fun _ M3 H3 s3 => ?_)
  · refine s_ret (K := K) (π := none) (M := M3) (ed_op' (ed_var rfl (.int _)) (ed_op' ed_i ed_i (od_pow ⟨by decide, by decide, by decide⟩)) od_sub) (s3.okk o2) fun v d M4 H4 e s4 k4 => ?_
    subst e
    exact k v _ H0 H4 ⟨_, rfl⟩ (fin ((s2.trans s3 oc).trans s4 oc)) (by rw [dp_int k4]; exact .int _)
  have S3 := s2.trans s3 oc
  have pp : (0 : Int) < 2305843009213693951 := by decide
  refine q_asg (K := K) (π := none) (M := M3) ed_i (S3.okk oc) fun v d M4 H4 e s4 kv4 => ?_
  subst e
  rw [dp_int kv4]
  have S4 := S3.trans s4 oc
  refine q_asg (K := K) (π := none) (M := M4) (ed_op' (ed_cb' (el_c (ed_op' (ed_op' (ed_op' (ed_var rfl (.int _)) ed_i (od_mul (.inr ⟨by decide, by decide⟩))) (ed_op' ed_i (ed_var rfl (.int _)) (od_mul (.inl ⟨by decide, by decide⟩))) od_add) ed_i od_add) el_nil) cb_int) (ed_var rfl (.int _)) (od_mod pp)) (S4.okk oc) fun v d M5 H5 e s5 kv5 => ?_
  subst e
  rw [dp_int kv5]
  have S5 := S4.trans s5 oc
  have st1 : ∀ z : Int, 0 ≤ z % 2305843009213693951 ∧ z % 2305843009213693951 < 2305843009213693951 := fun z => ⟨Int.emod_nonneg _ (by decide), Int.emod_lt_of_pos _ pp⟩
  obtain ⟨a1, a2⟩ := st1 (c * 48271 + 60013 * seat + 31)
  generalize (c * 48271 + 60013 * seat + 31) % 2305843009213693951 = state at a1 a2
  refine q_asg (K := K) (π := none) (M := M5) (ed_var rfl (.int state)) (S5.okk oc) fun v d M6 H6 e s6 kv6 => ?_
  subst e
  rw [dp_int kv6]
  have S6 := S5.trans s6 oc
  refine q_for (K := K) (π := none) (M := M6) (Φx := (· = upto 0 6)) (ei_range1 (Φl := (· = [.int 6])) (el_c ed_i el_nil) (fun ds e => ⟨6, e, by decide, by decide, rfl⟩)) (S6.okk oc) tg1 (fun _ _ _ _ => trivial)
    (fun xs i σ' M' H' => ∃ (st fo : Int) (lv : Option V), σ' = [some (.ref q.p), some (.int seat), some (.ref q.g), some (.int c), some (.int 2305843009213693951), some (.int st), some (.int fo), lv] ∧ Stp K none H1 H1 M' H' ∧ 0 ≤ st ∧ st < 2305843009213693951) ?_ ?_ ?_ ?_
  · rintro xs i σ' M' H' ⟨_, _, _, rfl, s, _⟩
    exact s.okk oc
  · rintro xs N H7 rfl s7
    exact ⟨state, state, none, rfl, S6.trans s7 oc, a1, a2⟩
  · rintro xs i d σ' M' H' M7 H7 σ2 rfl e1 ⟨st, fo, lv, rfl, s7, b1, b2⟩ s8 ed ⟨x, kx, rfl⟩
    obtain ⟨hi, rfl⟩ := upto_get ed
    rw [dp_int kx]
    have S8 := s7.trans s8 oc
    refine q_asg (K := K) (π := none) (M := M7) (ed_op' (ed_cb' (el_c (ed_op' (ed_op' (ed_op' (ed_var rfl (.int _)) (ed_var rfl (.int _)) (od_mul (.inl ⟨by omega, by omega⟩))) (ed_op' (ed_op' ed_i (ed_op' (ed_var rfl (.int _)) ed_i od_add) (od_mul (.inl ⟨by decide, by decide⟩))) (ed_op' (ed_var rfl (.int _)) ed_i od_add) (od_mul (.inl ⟨by omega, by omega⟩))) od_add) (ed_var rfl (.int _)) od_add) el_nil) cb_int) (ed_var rfl (.int _)) (od_mod pp)) (S8.okk oc) fun v d M9 H9 e s9 kv9 => ?_
    subst e
    rw [dp_int kv9]
    have S9 := S8.trans s9 oc
    refine s_asg (K := K) (π := none) (M := M9) (ed_op' (ed_op' (ed_var rfl (.int _)) (ed_var rfl (.int _)) (od_mul (.inr ⟨by decide, by decide⟩))) (ed_var rfl (.int _)) od_add) (S9.okk oc) fun v d M10 H10 e s10 kv10 => ?_
    subst e
    rw [dp_int kv10]
    exact ⟨M10, (s8.ex.trans s9.ex).trans s10.ex, _, _, _, rfl, S9.trans s10 oc, st1 _⟩
  · rintro xs σ' M' H' rfl e1 ⟨st, fo, lv, rfl, s7, b1, b2⟩
    refine s_ret (K := K) (π := none) (M := M') (ed_var rfl (.int _)) (s7.okk oc) fun v d M4 H4 e s4 k4 => ?_
    subst e
    exact k v _ H0 H4 ⟨_, rfl⟩ (fin (s7.trans s4 oc)) (by rw [dp_int k4]; exact .int _)

/-! ### a drawn number -/
section
variable {q : Pn} {σ : L2.St} {M H : Hp} {i : Nat} {te : TE} {D : Ends} {tz : TS}
theorem ed_cell (hv : σ[i]? = some (some (.ref q.p))) : EvD K (some q) (tOp (rIxL K) (tVar i) (tC (.int 2))) σ M (fun d => ∃ z : Int, d = .int z) := fun H1 o Q k => by
  obtain ⟨a, b, hc⟩ := (o.pen q rfl).2.cells
  exact ⟨_, hv, q.p, _, 2, .int b, rfl, rfl, sq_of hc, rfl, k _ _ M H1 ⟨b, rfl⟩ o.stp (.int _)⟩
theorem s_cell (hv : σ[i]? = some (some (.ref q.p))) (h : EvD K (some q) te σ M (fun d => ∃ z : Int, d = .int z)) (o : Okk K (some q) M H) (k : ∀ M' H', Stp K (some q) M H M' H' → D.nx σ H') : tAsg te (gSub (tVar i) (tC (.int 2)) rSetL) D σ H :=
  h H o _ fun v d N H2 hd s kv => by
    obtain ⟨z, rfl⟩ := hd
    rw [dp_int kv]
    have o2 := s.okk o
    obtain ⟨a, b, hc⟩ := (o2.pen q rfl).2.cells
    exact ⟨_, hv, q.p, _, 2, 2, rfl, rfl, hc, rfl, k N _ (s.trans (okk_pen o2) o)⟩
theorem q_cell (hv : σ[i]? = some (some (.ref q.p))) (h : EvD K (some q) te σ M (fun d => ∃ z : Int, d = .int z)) (o : Okk K (some q) M H) (k : ∀ M' H', Stp K (some q) M H M' H' → tz D σ H') : tSeq (tAsg te (gSub (tVar i) (tC (.int 2)) rSetL)) tz D σ H :=
  s_cell (D := { D with nx := tz D }) hv h o k
end
def drawPre : List PyData → Prop := fun ds => ∃ b : Int, ds = [.int b] ∧ 1 ≤ b ∧ b < 2 ^ 300
def drawPost : List PyData → DP := fun ds d => ∀ b : Int, ds = [.int b] → ∃ z : Int, d = .int z ∧ 0 ≤ z ∧ z < b
theorem scDraw : FnScope ["pen", "bound", "digit"] ["pen", "bound"] (defScope sDraw) := ⟨rfl, rfl, rfl, by decide +kernel, rfl, by decide +kernel, by decide +kernel⟩
theorem c_draw {f : Addr} {fd : FuncData} (F : Fun K "_law_draw" "_law_draw" sDraw f fd) (m : mg "_law_draw" = some (.ref f)) (B : Blt mg) (C_law_fresh : Cal P w K mg base "_law_fresh" 1 ["pen"] (spP K freshPre freshPost)) :
    Cal P w K mg base "_law_draw" 2 ["pen", "bound"] (spP K drawPre drawPost) := by
  refine ⟨f, fd, F.ok scDraw (fun vs H Q E h => ?_) (fun cdv A outer s H vs Q E hr h => ?_), m, F.kp, F.binds (ps := ["pen", "bound"]) fun _ _ _ _ _ _ us hl => match us, hl with | [_, _], _ => rfl⟩
  · obtain ⟨q, H0, ws, ds, rfl, hd, ⟨b, rfl, _⟩, _⟩ := h
    have := dps_len hd
    simp only [List.length_cons, List.length_nil] at this ⊢
    omega
  obtain ⟨q, H0, ws, ds, rfl, hd, ⟨b, rfl, hb1, hb2⟩, o0, k⟩ := h
  obtain ⟨vb, rfl, kb⟩ := dps1 hd
  rw [dp_int kb]
  have nd := scDraw.nd
  refine ⟨_, (pss_cons (ps_if (pt_cmpR op_lt (pe_ix ix_list (pv 0) pe_int (fun _ _ => rfl)) (pv 1) (nomark _)) (pss_one (ps_asg (pe_c C_law_fresh (hr.mono (by decide)) rfl (pa_cons (pv 0) pa_nil)) (pg_sub (pv 0) pe_int set_list))) pss_nil)
    (pss_cons (ps_set (i := 2) nd rfl (Or.inl rfl) (pe_op op_mod (pe_callTy call_int1 (by rfl) B.int (by decide +kernel) (pa_cons (pe_ix ix_list (pv 0) pe_int (fun _ _ => rfl)) pa_nil)) (pv 1)))
    (pss_cons (ps_asg (pe_op op_fdivW (pe_callTy call_int1 (by rfl) B.int (by decide +kernel) (pa_cons (pe_ix ix_list (pv 0) pe_int (fun _ _ => rfl)) pa_nil)) (pv 1)) (pg_sub (pv 0) pe_int set_list))
    (pss_one (ps_ret (pv 2)))))), ?_⟩
  have hpos : (0 : Int) < b := by omega
  have hdw : ∀ z : Int, CDivW z b := fun z => wide_div hpos (b := 300) (by
    have e : (2 : Int) ^ 300 = ((2 ^ 300 : Nat) : Int) := by norm_cast
    rw [e] at hb2
    omega) (by decide) (by decide)
  have rest : ∀ M2 H2, Stp K (some q) H0 H M2 H2 → tSeq (tAsg (tOp (rI (fun _ j => 0 < j) fun i j => .int (i % j)) (tCB (fun xs H Q => (∃ i, xs = [.int i] ∧ Q (.int i) H) ∨ ∃ k, xs = [.bl k] ∧ Q (.int (if k then 1 else 0)) H) (tCons (tOp (rIxL K) (tVar 0) (tC (.int 2))) tNil)) (tVar 1)) (gName 2))
      (tSeq (tAsg (tOp (rI CDivW fun i j => .int (i / j)) (tCB (fun xs H Q => (∃ i, xs = [.int i] ∧ Q (.int i) H) ∨ ∃ k, xs = [.bl k] ∧ Q (.int (if k then 1 else 0)) H) (tCons (tOp (rIxL K) (tVar 0) (tC (.int 2))) tNil)) (tVar 1)) (gSub (tVar 0) (tC (.int 2)) rSetL)) (tRet (tVar 2)))
      { nx := fun _ H' => Q .non H', rt := Q } [some (.ref q.p), some (.int b), none] H2 := fun M2 H2 S2 => by
    refine q_asg (K := K) (π := some q) (M := M2) (Φ := fun d => ∃ z : Int, d = .int z ∧ 0 ≤ z ∧ z < b) (ed_op (Φa := fun d => ∃ z : Int, d = .int z) (Φb := (· = .int b)) (ed_cb (Φl := fun ds => ∃ z : Int, ds = [.int z]) (el_cons (ed_cell rfl) el_nil fun d ds hd e => by
      obtain ⟨z, rfl⟩ := hd
      exact ⟨z, by rw [e]⟩) fun ds hd => ?_) (ed_var rfl (.int _)) fun x y hx hy => ?_) (S2.okk o0) fun v d M3 H3 hd s3 kv => ?_
    · obtain ⟨z, rfl⟩ := hd
      exact fun vs H0 H1 h o Q q => cb_int vs H0 H1 h o Q fun v d N H2 e => q v d N H2 ⟨z, e⟩
    · obtain ⟨z, rfl⟩ := hx
      subst hy
      exact fun x y H0 H1 hx hy o Q q => od_mod hpos x y H0 H1 hx hy o Q fun v d N H2 e => q v d N H2 ⟨_, e, Int.emod_nonneg _ (by omega), Int.emod_lt_of_pos _ hpos⟩
    obtain ⟨z, rfl, hz0, hz1⟩ := hd
    rw [dp_int kv]
    have S3 := S2.trans s3 o0
    refine q_cell (M := M3) rfl (ed_op (Φa := fun d => ∃ z : Int, d = .int z) (Φb := (· = .int b)) (ed_cb (Φl := fun ds => ∃ z : Int, ds = [.int z]) (el_cons (ed_cell rfl) el_nil fun d ds hd e => by
      obtain ⟨z, rfl⟩ := hd
      exact ⟨z, by rw [e]⟩) fun ds hd => ?_) (ed_var rfl (.int _)) fun x y hx hy => ?_) (S3.okk o0) fun M4 H4 s4 => ?_
    · obtain ⟨z, rfl⟩ := hd
      exact fun vs H0 H1 h o Q q => cb_int vs H0 H1 h o Q fun v d N H2 e => q v d N H2 ⟨z, e⟩
    · obtain ⟨z, rfl⟩ := hx
      subst hy
      exact fun x y H0 H1 hx hy o Q q => od_I (d := .int (z / b)) (hdw z) (fun _ => .int _) x y H0 H1 hx hy o Q fun v d N H2 e => q v d N H2 ⟨_, e⟩
    exact s_ret (K := K) (π := some q) (M := M4) (ed_var rfl (.int _)) ((S3.trans s4 o0).okk o0) (k.go o0 (S3.trans s4 o0) fun d e b' he => by
      injection he with he
      injection he with he
      subst he
      exact ⟨z, e, hz0, hz1⟩)
  refine q_when (K := K) (π := some q) (M := H0) (Φb := fun _ => True) (eb_test (Φ := fun d => ∃ b, d = .bool b) (ed_op (Φa := fun d => ∃ z : Int, d = .int z) (Φb := (· = .int b)) (ed_cell rfl) (ed_var rfl (.int _)) fun x y hx hy => ?_) fun d hd => ?_) o0 (fun _ M1 H1 s1 => ?_) (fun _ M1 H1 s1 => rest M1 H1 s1)
  · obtain ⟨z, rfl⟩ := hx
    subst hy
    exact fun x y H0 H1 hx hy o Q q => od_lt x y H0 H1 hx hy o Q fun v d N H2 e => q v d N H2 ⟨_, e⟩
  · obtain ⟨b, rfl⟩ := hd
    exact ⟨b, rfl, trivial⟩
  · refine s_cell (M := M1) rfl (ed_callP (Φl := (· = [])) rfl el_nil (fun ds e => e) fun ds d _ hp => hp) (s1.okk o0) fun M2 H2 s2 => ?_
    exact rest M2 H2 (s1.trans s2 o0)
end
end K01

set_option maxRecDepth 100000
set_option maxHeartbeats 4000000
namespace K01
open PySem PySem.Spec PyProof.Rows L2 Gd Dt Dl
open Evl (Ex Ex.refl Ex.trans Ex.new ex_l ex_t sq_of st_of fresh_back)
abbrev sDword : Stmt := top 8
abbrev sPlaces : Stmt := top 9
abbrev sRight : Stmt := top 10
section
variable {P : Program} {w : World} {K : PySem.W.Frag} {mg : Str → Option Value} {base : Heap}
/-! ### drawn words -/
def dwPre : List PyData → Prop := fun ds => ∃ l n : Int, ds = [.int l, .int n] ∧ 1 ≤ l ∧ l ≤ 1000 ∧ 0 ≤ n ∧ n ≤ 1000
def IsWord (l n : Int) (w : List Int) : Prop := (w.length : Int) ≤ n ∧ ∀ x ∈ w, 0 ≤ x ∧ x < l
def dwPost : List PyData → DP := fun ds d => ∀ l n : Int, ds = [.int l, .int n] → ∃ w : List Int, d = tupI w ∧ IsWord l n w
theorem b300 {b : Int} (h : b ≤ 2000) : b < 2 ^ 300 := by
  have : (2000 : Int) < 2 ^ 300 := by decide +kernel
  omega
theorem scDword : FnScope ["pen", "letters", "most", "lap"] ["pen", "letters", "most"] (defScope sDword) := ⟨rfl, rfl, rfl, by decide +kernel, rfl, by decide +kernel, by decide +kernel⟩
theorem c_dword {f : Addr} {fd : FuncData} (F : Fun K "_law_drawn_word" "_law_drawn_word" sDword f fd) (m : mg "_law_drawn_word" = some (.ref f)) (B : Blt mg) (C_law_draw : Cal P w K mg base "_law_draw" 2 ["pen", "bound"] (spP K drawPre drawPost)) :
    Cal P w K mg base "_law_drawn_word" 3 ["pen", "letters", "most"] (spP K dwPre dwPost) := by
  refine ⟨f, fd, F.ok scDword (fun vs H Q E h => ?_) (fun cdv A outer s H vs Q E hr h => ?_), m, F.kp, F.binds (ps := ["pen", "letters", "most"]) fun _ _ _ _ _ _ us hl => match us, hl with | [_, _, _], _ => rfl⟩
  · obtain ⟨q, H0, ws, ds, rfl, hd, ⟨l, n, rfl, _⟩, _⟩ := h
    have := dps_len hd
    simp only [List.length_cons, List.length_nil] at this ⊢
    omega
  obtain ⟨q, H0, ws, ds, rfl, hd, ⟨l, n, rfl, hl1, hl2, hn0, hn1⟩, o0, k⟩ := h
  obtain ⟨vl, vn, rfl, kl, kn⟩ := dps2 hd
  rw [dp_int kl, dp_int kn]
  have nd := scDword.nd
  refine ⟨_, (pss_one (ps_ret (pe_callTy call_tuple_of (by rfl) B.tuple (by decide +kernel) (pa_cons (pe_lc (own := [("lap", 3)]) (g := (gName 3)) (tt := tYes) (te := (tCall (spP K drawPre drawPost) [] E0 (tCons (tVar 0) (tCons (tVar 1) tNil)))) rfl nd (pi_range1 rfl B.range (pa_cons (pe_c C_law_draw (hr.mono (by decide)) rfl (pa_cons (pv 0) (pa_cons (pe_op op_add (pv 2) pe_int) pa_nil))) pa_nil)) (blkOk_by (own := [("lap", 3)]) (N := ["pen", "letters", "most", "lap"]) (sc := defScope sDword) (by decide +kernel)) (fun _ _ _ _ _ => pg_name (i := 3) nd rfl (Or.inl rfl)) (fun _ _ _ _ _ => pts_nil) (fun _ _ _ _ _ => (pe_c C_law_draw (hr.mono (by decide)) rfl (pa_cons (pv 0) (pa_cons (pv 1) pa_nil))))) pa_nil)))), ?_⟩
  refine s_ret (K := K) (π := some q) (M := H0) (Φ := fun d => ∃ w : List Int, d = tupI w ∧ IsWord l n w) (ed_cb (Φl := fun ds => ∃ w : List Int, ds = [.list (w.map .int)] ∧ IsWord l n w) (el_cons (Φ := fun d => ∃ w : List Int, d = .list (w.map .int) ∧ IsWord l n w) (EvF.ed (Φl := fun ds => ∃ w : List Int, ds = w.map .int ∧ IsWord l n w)
    (ef_lc (Φx := fun xs => (xs.length : Int) ≤ n) (T := T1 K 3) (ei_range1 (Φl := fun ds => ∃ z : Int, ds = [.int z] ∧ 0 ≤ z ∧ z ≤ n) (el_cons (ed_callP (Φl := (· = [.int (n + 1)])) rfl (el_c (ed_op' (ed_var rfl (.int _)) ed_i od_add) el_nil) (fun ds e => ⟨n + 1, e, by omega, b300 (by omega)⟩) (fun ds d e hp => hp (n + 1) e)) el_nil fun d ds hd e => ?_) fun ds hd => ?_) tg1 (fun _ _ _ _ => trivial) ?_ ?_
      (fun xs i acc => ∃ w : List Int, acc = w.map .int ∧ w.length = i ∧ ∀ x ∈ w, 0 ≤ x ∧ x < l) ?_ ?_ ?_) fun ds hd => ?_) el_nil fun d ds hd e => ?_) fun ds hd => ?_) o0 (k.go o0 o0.stp fun d hd l' n' he => ?_)
  · obtain ⟨z, rfl, h1, h2⟩ := hd
    exact ⟨z, by rw [e], h1, by omega⟩
  · obtain ⟨z, rfl, h1, h2⟩ := hd
    exact ⟨z, rfl, by omega, by omega, by rw [upto_len]; omega⟩
  · intro xs hx
    omega
  · rintro d M σ' ⟨x, _, rfl⟩
    rfl
  · intro xs hx
    exact ⟨[], rfl, rfl, fun x hx => by cases hx⟩
  · rintro xs i d acc M σ' hx ed e1 ⟨x, kx, rfl⟩ ⟨w, rfl, rfl, hw⟩
    refine ⟨(· = true), eb_yes, fun _ => ?_, fun h => by cases h⟩
    refine ed_callP (Φl := (· = [.int l])) rfl (el_c (ed_var rfl (.int _)) el_nil) (fun ds e => ⟨l, e, hl1, b300 (by omega)⟩) (fun ds d e hp => ?_)
    obtain ⟨z, rfl, z0, z1⟩ := hp l e
    refine ⟨w ++ [z], by simp, by simp, fun x hx => ?_⟩
    rcases List.mem_append.mp hx with h | h
    · exact hw x h
    · rw [List.mem_singleton.mp h]
      exact ⟨z0, z1⟩
  · rintro xs acc hx ⟨w, rfl, hl, hw⟩
    exact ⟨w, rfl, by rw [hl]; exact hx, hw⟩
  · obtain ⟨w, rfl, h⟩ := hd
    exact ⟨w, rfl, h⟩
  · obtain ⟨w, rfl, h⟩ := hd
    exact ⟨w, by rw [e], h⟩
  · obtain ⟨w, rfl, h⟩ := hd
    exact fun vs H0 H1 h1 o Q q => cb_tupL vs H0 H1 h1 o Q fun v d N H2 e => q v d N H2 ⟨w, e, h⟩
  · injection he with e1 e2
    injection e2 with e2 _
    injection e1 with e1
    injection e2 with e2
    subst e1 e2
    exact hd

/-! ### all tuples of places -/
def smPre : List PyData → Prop := fun ds => ∃ w o : List Int, ds = [tupI w, tupI o] ∧ w.length ≤ 4 ∧ o.length ≤ 12
def rowsD (rs : List (List Nat)) : PyData := .list (rs.map tupN)
def lpPost : List PyData → DP := fun ds d => ∀ w o, ds = [tupI w, tupI o] → d = rowsD (M1.allPlaces o w)
theorem ed_neg {π : Option Pn} {σ : L2.St} {H0 : Hp} {te : TE} {i : Int} (h : EvD K π te σ H0 (· = .int i)) : EvD K π (tUn (rU fun i => .int (-i)) te) σ H0 (· = .int (-i)) := fun H1 o Q q => h H1 o _ fun v d N H2 e s kv => by
  subst e
  exact ⟨i, dp_int kv, q _ _ N H2 rfl s (.int _)⟩
theorem atI_last {α : Type} {xs : List α} {x : α} (h : xs.getLast? = some x) : atI xs (-1) = some x := by
  have hne : xs ≠ [] := fun e => by
    rw [e] at h
    cases h
  have hl := List.length_pos_iff.mpr hne
  have e : ixN xs.length (-1) = some (xs.length - 1) := by
    unfold ixN
    rw [if_neg (by decide), if_pos (by omega)]
    congr 1
    omega
  unfold atI
  rw [e]
  show xs[xs.length - 1]? = some x
  rw [List.getLast?_eq_getElem?] at h
  exact h
theorem eqv_nil (r : List Int) : PyData.eqv (tupI r) (.tuple []) = decide (r = []) := by
  cases r with
  | nil => rfl
  | cons a r => simp [tupI, PyData.eqv, PyData.eqvAll]
theorem eqv_nilL {α : Type} (r : List α) (f : α → PyData) : PyData.eqv (.list (r.map f)) (.list []) = r.isEmpty := by
  cases r with
  | nil => rfl
  | cons a r => simp [PyData.eqv, PyData.eqvAll]
theorem leastOf_nil : M1.leastOf [] = 0 := rfl
theorem leastOf_last {r : List Nat} {k : Nat} (h : r.getLast? = some k) : M1.leastOf r = k + 1 := by
  unfold M1.leastOf
  rw [h]
theorem scPlaces : FnScope ["word", "other", "rows", "letter", "longer", "row", "least", "at"] ["word", "other"] (defScope sPlaces) := ⟨rfl, rfl, rfl, by decide +kernel, rfl, by decide +kernel, by decide +kernel⟩
theorem tupN_app (r : List Nat) (k : Nat) : PyData.tuple ((r.map fun n : Nat => (n : Int)).map .int ++ [.int (k : Int)]) = tupN (r ++ [k]) := by
  unfold tupN tupI
  simp
theorem c_places {f : Addr} {fd : FuncData} (F : Fun K "_law_places" "_law_places" sPlaces f fd) (m : mg "_law_places" = some (.ref f)) (B : Blt mg) : Cal P w K mg base "_law_places" 1 ["word", "other"] (spD K smPre lpPost) := by
  refine ⟨f, fd, F.ok scPlaces (fun vs H Q E h => ?_) (fun cdv A outer s H vs Q E hr h => ?_), m, F.kp, F.binds (ps := ["word", "other"]) fun _ _ _ _ _ _ us hl => match us, hl with | [_, _], _ => rfl⟩
  · obtain ⟨H0, ds, hd, ⟨w, o, rfl, _⟩, _⟩ := h
    exact dps_len hd
  obtain ⟨H0, ds, hd, ⟨w, o, rfl, hw, ho⟩, o0, q⟩ := h
  obtain ⟨vw, vo, rfl, dw, d_o⟩ := dps2 hd
  have nd := scPlaces.nd
  refine ⟨_, (pss_cons (ps_set (i := 2) nd rfl (Or.inl rfl) (pe_lst (pa_cons (pe_tup pa_nil) pa_nil)))
    (pss_cons (ps_for PassesOwn.never rfl (pi_tup (pv 0)) (pg_name (i := 3) nd rfl (Or.inr rfl)) (pss_cons (ps_set (i := 4) nd rfl (Or.inl rfl) (pe_lst pa_nil))
    (pss_cons (ps_for PassesOwn.never rfl (pi_list (pv 2)) (pg_name (i := 5) nd rfl (Or.inr rfl)) (pss_cons (ps_set (i := 6) nd rfl (Or.inl rfl) (pe_ifExp (pt_cmpR (op_neD hr.units) (pv 5) (pe_tup pa_nil) (nomark _)) (pe_op op_add (pe_ix ix_tup (pv 5) (pe_un un_neg pe_int) (fun _ _ => rfl)) pe_int) pe_int))
    (pss_one (ps_expr (pe_bm PySem.F.plainAttrs_list PySem.F.slot_list_extend PySem.F.type_list_extend mt_extend (pv 4) (pa_cons (pe_lc (own := [("at", 7)]) (g := (gName 7)) (tt := (tTest (tOp (rI0 fun i j => .bl (decide (j ≤ i))) (tOp (rIxT K) (tVar 1) (tVar 7)) (tVar 3)))) (te := (tOp (rCatA K) (tVar 5) (tTup (tCons (tVar 7) tNil)))) rfl nd (pi_range2 rfl B.range (pa_cons (pv 6) (pa_cons (pe_callB (call_len_seq) (by rfl) B.len (by decide +kernel) (pa_cons (pv 1) pa_nil)) pa_nil))) (blkOk_by (own := [("at", 7)]) (N := ["word", "other", "rows", "letter", "longer", "row", "least", "at"]) (sc := defScope sPlaces) (by decide +kernel)) (fun _ _ _ _ _ => pg_name (i := 7) nd rfl (Or.inl rfl)) (fun _ _ _ _ _ => pts_one (pt_cmpR op_ge (pe_ix ix_tup (pv 1) (pv 7) (fun _ _ => rfl)) (pv 3) (nomark _))) (fun _ _ _ _ _ => (pe_op op_catA (pv 5) (pe_tup (pa_cons (pv 7) pa_nil))))) pa_nil))))))
    (pss_one (ps_set (i := 2) nd rfl (Or.inl rfl) (pv 4))))))
    (pss_one (ps_ret (pv 2))))), ?_⟩
  refine q_asg (K := K) (π := none) (M := H0) (Φ := (· = rowsD [[]])) (ed_l (el_c (ed_t el_nil) el_nil)) o0 fun v d M1_ H1 e s1 kv => ?_
  subst e
  refine q_for (K := K) (π := none) (M := M1_) (Φx := (· = w.map .int)) (ei_tup (ed_var rfl (dp_ex s1.ex dw))) (s1.okk o0) tg1 (fun _ _ _ _ => trivial)
    (fun xs i σ' M' H' => ∃ (vr : V) (a b c d : Option V), σ' = [some vw, some vo, some vr, a, b, c, d, none] ∧ Stp K none H0 H M' H' ∧ Dp K M' vr (rowsD (M1.pl o w i))) ?_ ?_ ?_ ?_
  · rintro xs i σ' M' H' ⟨_, _, _, _, _, rfl, s, _⟩
    exact s.okk o0
  · rintro xs N H2 rfl s2
    exact ⟨v, none, none, none, none, rfl, s1.trans s2 o0, by rw [M1.pl_zero]; exact dp_ex s2.ex kv⟩
  · rintro xs i d σ' M' H' M2 H2 σ2 rfl e1 ⟨vr, xa, xb, xc, xd, rfl, S, kr⟩ s2 ed ⟨x, kx, rfl⟩
    rw [List.getElem?_map] at ed
    obtain ⟨li, hli, rfl⟩ := Option.map_eq_some_iff.mp ed
    have hil : i < w.length := (List.getElem?_eq_some_iff.mp hli).1
    rw [dp_int kx]
    have S2 := S.trans s2 o0
    refine q_new (fun l hl => ?_)
    have l0 : H l = none := by
      cases e : H l with
      | none => rfl
      | some u =>
        rw [S2.off l u (fun q z => by cases z) e] at hl
        cases hl
    have l2 : M2 l = none := fresh_back S2.ex2 hl
    have S3 : Stp K none H0 H M2 (upd H2 l (.lst [])) := S2.mut o0 l0 l2
    have nl : ∀ q : Pn, none = some q → l ≠ q.p := fun q z => by cases z
    have hrl := M1.pl_len ho (w := w) (i := i) (by omega)
    have h3 : (12 : Nat) ^ i ≤ 12 ^ 3 := Nat.pow_le_pow_right (by decide) (by omega)
    have h4 : (12 : Nat) ^ 3 = 1728 := by decide
    have kr2 := dp_ex s2.ex kr
    refine q_for (K := K) (π := none) (M := M2) (Φx := (· = (M1.pl o w i).map tupN)) (ei_lst (ed_var rfl kr2)) (S3.okk o0) tg1 (fun _ _ _ _ => trivial)
      (fun xs j σ3 M3 H3 => ∃ (c d : Option V) (ys : List V), σ3 = [some vw, some vo, some vr, some (.int li), some (.ref l), c, d, none] ∧ Stp K none H0 H M3 H3 ∧ M3 l = none ∧ H3 l = some (.lst ys) ∧ DpAll K M3 ys ((M1.level o li ((M1.pl o w i).take j)).map tupN)) ?_ ?_ ?_ ?_
    · rintro xs j σ3 M3 H3 ⟨_, _, _, rfl, s, _⟩
      exact s.okk o0
    · rintro xs N H4 rfl s4
      exact ⟨_, _, [], rfl, S3.trans s4 o0, s4.out l2 (by rw [upd_same]; exact fun z => by cases z), s4.off l _ nl upd_same, .nil⟩
    · rintro xs j d σ3 M3 H3 M4 H4 σ4 rfl e3 ⟨yc, yd, ys, rfl, S4, m3, h3l, kys⟩ s4 ed ⟨x, kx, rfl⟩
      rw [List.getElem?_map] at ed
      obtain ⟨r, hr1, rfl⟩ := Option.map_eq_some_iff.mp ed
      have hjl : j < (M1.pl o w i).length := (List.getElem?_eq_some_iff.mp hr1).1
      have hrlen := M1.pl_row (by omega) r (List.mem_of_getElem? hr1)
      have S5 := S4.trans s4 o0
      have m4 := s4.out m3 (by rw [h3l]; exact fun z => by cases z)
      have h4l := s4.off l _ nl h3l
      have dO : Dp K M4 vo (tupI o) := dp_ex S5.ex d_o
      refine q_asg (K := K) (π := none) (M := M4) (Φ := (· = .int ((M1.leastOf r : Nat) : Int))) (ed_if (Φb := (· = !decide ((r.map fun n : Nat => (n : Int)) = []))) ((eb_t (ed_op' (ed_var rfl kx) (ed_t el_nil) (od_neD (shaped_tupI _) (shaped_tupI [])))).imp fun b e => by rw [e]; exact congrArg _ (eqv_nil _)) (fun hb => ?_) (fun hb => ?_)) (S5.okk o0) fun v d M5 H5 e s5 kv5 => ?_
      · have hne : r ≠ [] := fun z => by
          rw [z] at hb
          cases hb
        obtain ⟨k, hk⟩ : ∃ k, r.getLast? = some k := by
          cases e : r.getLast? with
          | none => exact absurd (List.getLast?_eq_none_iff.mp e) hne
          | some k => exact ⟨k, rfl⟩
        refine (ed_op' (ed_op' (ed_var rfl kx) (ed_neg ed_i) (od_ixT (d := .int (k : Int)) (atI_last ?_))) ed_i od_add).imp fun d e => ?_
        · rw [List.getLast?_map, List.getLast?_map, hk]
          rfl
        · rw [e, leastOf_last hk]
          rfl
      · have hne : r = [] := by
          have := of_decide_eq_true (by simpa using hb.symm)
          simpa using this
        rw [hne, leastOf_nil]
        exact ed_i
      subst e
      rw [dp_int kv5]
      have S6 := S5.trans s5 o0
      have m5 := s5.out m4 (by rw [h4l]; exact fun z => by cases z)
      have h5l := s5.off l _ nl h4l
      have kx5 := dp_ex s5.ex kx
      have dO5 := dp_ex s5.ex dO
      have hlev : (M1.level o li ((M1.pl o w i).take j)).length ≤ 20736 := by
        have h1 := M1.level_len (o := o) (l := li) (rows := (M1.pl o w i).take j)
        have h2 : ((M1.pl o w i).take j).length * o.length ≤ 1728 * 12 := Nat.mul_le_mul (by rw [List.length_take]; omega) ho
        omega
      have hys := dps_len kys
      rw [List.length_map] at hys
      refine s_ext (K := K) (π := none) (i := 4) (Φl := fun ds => ds = (M1.exts o li r).map tupN) rfl h5l nl
        (ef_lc (Φx := (· = upto ((M1.leastOf r : Nat) : Int) (o.length - M1.leastOf r))) (T := T1 K 7) (ei_range2 (Φl := (· = [.int ((M1.leastOf r : Nat) : Int), .int ((o.map PyData.int).length : Nat)])) (el_c (ed_var rfl (.int _)) (el_c (ed_cb' (el_c (ed_var rfl dO5) el_nil) cb_lenT) el_nil)) fun ds e => ?_) tg1 (fun _ _ _ _ => trivial) ?_ ?_
          (fun xs a acc => acc = (((List.range' (M1.leastOf r) (o.length - M1.leastOf r)).take a).filter (M1.good o li)).map fun k => tupN (r ++ [k])) ?_ ?_ ?_) (S6.okk o0) ?_ ?_
      · have hle := M1.pl_least (by omega) r (List.mem_of_getElem? hr1)
        refine ⟨_, _, e, ⟨by omega, by omega, by omega, by rw [List.length_map]; omega⟩, ?_⟩
        rw [List.length_map]
        congr 1
        omega
      · rintro xs rfl
        rw [upto_len]
        omega
      · rintro d M σ' ⟨x, _, rfl⟩
        rfl
      · rintro xs rfl
        rfl
      · rintro xs a d acc M σ' rfl ed e5 ⟨x, kx', rfl⟩ rfl
        obtain ⟨ha, rfl⟩ := upto_get ed
        rw [dp_int kx']
        have hk : M1.leastOf r + a < o.length := by omega
        have ey := List.getElem?_eq_getElem hk
        have ecast : ((M1.leastOf r : Nat) : Int) + (a : Nat) = ((M1.leastOf r + a : Nat) : Int) := by omega
        rw [ecast]
        have hgood : M1.good o li (M1.leastOf r + a) = decide (li ≤ o[M1.leastOf r + a]) := by
          unfold M1.good
          rw [ey]
        refine ⟨(· = M1.good o li (M1.leastOf r + a)), ?_, fun hb => ?_, fun hb => ?_⟩
        · rw [hgood]
          exact eb_t (ed_op' (ed_op' (ed_var rfl (dp_ex e5 dO5)) (ed_var rfl (.int _)) (od_ixT (d := .int o[M1.leastOf r + a]) (atI_nat (by rw [List.getElem?_map, ey]; rfl)))) (ed_var rfl (.int _)) od_ge)
        · refine (ed_op' (ed_var rfl (dp_ex e5 kx5)) (ed_t (el_c (ed_var rfl (.int _)) el_nil) (hz := by show 1 ≤ 100000; decide)) (od_cat (by rw [List.length_map, List.length_map, hrlen]; show i + 1 ≤ 100000; omega))).imp fun y e => ?_
          rw [e, tupN_app, M1.range'_take _ _ _ ha, List.filter_append, List.map_append, List.filter_cons_of_pos hb.symm]
          rfl
        · rw [M1.range'_take _ _ _ ha, List.filter_append, List.map_append, List.filter_cons_of_neg (by rw [← hb]; exact Bool.false_ne_true)]
          simp
      · rintro xs acc rfl e
        rw [e, upto_len, List.take_of_length_le (by rw [List.length_range']; exact Nat.le_refl _)]
        unfold M1.exts M1.cand
        rw [List.map_map]
        rfl
      · rintro ds rfl
        rw [List.length_map, hys]
        have : (M1.exts o li r).length ≤ o.length := by
          unfold M1.exts M1.cand
          rw [List.length_map]
          have h1 := List.length_filter_le (M1.good o li) (List.range' (M1.leastOf r) (o.length - M1.leastOf r))
          rw [List.length_range'] at h1
          omega
        omega
      · rintro vs ds M6 H6 rfl s6 kvs h6
        have S7 := S6.trans s6 o0
        have m6 := s6.out m5 (by rw [h5l]; exact fun z => by cases z)
        refine ⟨M6, (s4.ex.trans s5.ex).trans s6.ex, _, _, ys ++ vs, rfl, S7.mut o0 l0 m6, m6, upd_same, ?_⟩
        rw [M1.level_take hr1, List.map_append]
        exact dps_app (dps_ex ((s4.ex.trans s5.ex).trans s6.ex) kys) kvs
    · rintro xs σ3 M3 H3 rfl e3 ⟨yc, yd, ys, rfl, S4, m3, h3l, kys⟩
      rw [List.length_map, List.take_length] at kys
      have sF := S4.freeze l0 m3 h3l
      refine s_asg (K := K) (π := none) (M := upd M3 l (.lst ys)) (Φ := (· = rowsD (M1.pl o w (i + 1)))) ((ed_var rfl (.lst (sq_of upd_same) (dps_ex (Ex.new m3) kys))).imp fun d e => ?_) (sF.okk o0) fun v d M5 H5 e s5 kv5 => ?_
      · rw [e, M1.pl_succ hli]
        rfl
      subst e
      exact ⟨M5, (s2.ex.trans (e3.trans (Ex.new m3))).trans s5.ex, v, _, _, _, _, rfl, sF.trans s5 o0, kv5⟩
  · rintro xs σ' M' H' rfl e1 ⟨vr, xa, xb, xc, xd, rfl, S, kr⟩
    refine s_ret (K := K) (π := none) (M := M') (ed_var rfl kr) (S.okk o0) (q.go o0 S fun d e w' o' he => ?_)
    obtain ⟨rfl, rfl⟩ := two_inj he
    rw [e, List.length_map, M1.pl_end]
end
end K01

set_option maxRecDepth 100000
set_option maxHeartbeats 4000000
namespace K01
open PySem PySem.Spec PyProof.Rows L2 Gd Dt Dl
open Evl (Ex Ex.refl Ex.trans Ex.new ex_l ex_t sq_of st_of fresh_back)
section
variable {P : Program} {w : World} {K : PySem.W.Frag} {mg : Str → Option Value} {base : Heap}
/-! ### a word and another one, looked at all ways -/
def rtPre : List PyData → Prop := fun ds => ∃ w o : List Int, ds = [tupI w, tupI o] ∧ w.length ≤ 4 ∧ o.length ≤ 12 ∧ (∀ x ∈ w, x.natAbs < 10 ^ 12) ∧ ∀ x ∈ o, x.natAbs < 10 ^ 12
def rtPost : List PyData → DP := fun _ d => d = .bool true
theorem greedy_lt (o : List Int) : ∀ (w : List Int) (k : Nat) (ps : List Nat), k ≤ o.length → M1.greedy o w k = some ps → ps.length = w.length ∧ ∀ p ∈ ps, p < o.length
  | [], k, ps, _, h => by
    cases h
    exact ⟨rfl, fun p hp => by cases hp⟩
  | l :: w, k, ps, hk, h => by
    unfold M1.greedy at h
    split at h
    · cases h
    · rename_i hf
      have h1 := M1.found_le (o := o) (l := l) hk
      obtain ⟨qs, e, rfl⟩ := Option.map_eq_some_iff.mp h
      obtain ⟨a, b⟩ := greedy_lt o w _ qs (by omega) e
      refine ⟨by rw [List.length_cons, List.length_cons, a], fun p hp => ?_⟩
      rcases List.mem_cons.mp hp with rfl | hp
      · omega
      · exact b p hp
theorem sm_plD {w o : List Int} (hw : w.length ≤ 600) (ho : o.length ≤ 600) : Sm (plD w o) 1 (600 * 41) := by
  unfold plD
  cases e : M1.greedy o w 0 with
  | none => exact sm_none.up (by decide) (by decide)
  | some ps =>
    obtain ⟨a, b⟩ := greedy_lt o w 0 ps (Nat.zero_le _) e
    refine (sm_tupI (ns := ps.map fun n : Nat => (n : Int)) fun n hn => ?_).up (by decide) ?_
    · obtain ⟨p, hp, rfl⟩ := List.mem_map.mp hn
      have := b p hp
      have : (10 : Nat) ^ 12 = 1000000000000 := by decide
      omega
    · rw [List.length_map]
      omega
theorem rows_first (w o : List Int) : (M1.allPlaces o w).head? = M1.greedy o w 0 := M1.first_place o w
theorem inB_rows (w o : List Int) : inB w o = !(M1.allPlaces o w).isEmpty := by
  unfold inB
  rw [← rows_first]
  cases M1.allPlaces o w <;> rfl
theorem sm_rows (rs : List (List Nat)) : SeqAt.shaped (rowsD rs) = true := by
  have h1 : ∀ rs : List (List Nat), PyData.canLayAll0 (rs.map tupN) = true ∧ PyData.depthAll (rs.map tupN) ≤ 62 := fun rs => by
    induction rs with
    | nil => exact ⟨rfl, Nat.zero_le _⟩
    | cons r rs ih =>
      have hs := shaped_tupI (r.map fun n : Nat => (n : Int))
      unfold SeqAt.shaped at hs
      rw [Bool.and_eq_true] at hs
      refine ⟨?_, ?_⟩
      · show (PyData.canLay0 (tupN r) && PyData.canLayAll0 (rs.map tupN)) = true
        rw [ih.1, Bool.and_true]
        exact hs.1
      · show max (PyData.depth (tupN r)) (PyData.depthAll (rs.map tupN)) ≤ 62
        have h2 : PyData.depth (tupN r) ≤ 62 := by
          have h3 : ∀ ns : List Int, PyData.depthAll (ns.map .int) ≤ 1 := fun ns => by
            induction ns with
            | nil => simp [PyData.depthAll]
            | cons n ns ih => simp only [List.map_cons, PyData.depthAll, PyData.depth]; omega
          have := h3 (r.map fun n : Nat => (n : Int))
          unfold tupN tupI
          simp only [PyData.depth]
          omega
        omega
  obtain ⟨a, b⟩ := h1 rs
  unfold SeqAt.shaped rowsD
  rw [Bool.and_eq_true]
  refine ⟨by simpa only [PyData.canLay0] using a, decide_eq_true ?_⟩
  simp only [PyData.depth]
  omega
theorem scRight : FnScope ["word", "other", "rows", "kept"] ["word", "other"] (defScope sRight) := ⟨rfl, rfl, rfl, by decide +kernel, rfl, by decide +kernel, by decide +kernel⟩
theorem c_right {f : Addr} {fd : FuncData} (F : Fun K "_law_right" "_law_right" sRight f fd) (m : mg "_law_right" = some (.ref f)) (B : Blt mg) (C_law_places : Cal P w K mg base "_law_places" 1 ["word", "other"] (spD K smPre lpPost))
    (Cis_within : Cal P w K mg base "is_within" 2 ["word", "other"] (spD K wPre inPost)) (Cplace_in : Cal P w K mg base "place_in" 1 ["word", "other"] (spD K wPre plPost)) : CalG P w K mg base "_law_right" 3 ["word", "other"] (spD K rtPre rtPost) := by
  refine ⟨f, fd, Gd.ok F scRight (fun vs H Q E h => ?_) (fun cdv A outer s H vs Q E hg hr h => ?_), m, F.kp, F.binds (ps := ["word", "other"]) fun _ _ _ _ _ _ us hl => match us, hl with | [_, _], _ => rfl⟩
  · obtain ⟨H0, ds, hd, ⟨w, o, rfl, _⟩, _⟩ := h
    exact dps_len hd
  obtain ⟨H0, ds, hd, ⟨w, o, rfl, hw, ho, sw, so⟩, o0, q⟩ := h
  obtain ⟨vw, vo, rfl, dw, d_o⟩ := dps2 hd
  have nd := scRight.nd
  have hfree : Free (A.deeper (envOfC "_law_right" (defScope sRight) s.heap.objs.size f cdv)) := hg
  refine ⟨_, (pss_cons (ps_par (i := 2) (j := 3) rfl nd rfl rfl (by decide) rfl rfl (pa_cons (pe_c C_law_places (hr.mono (by decide)) rfl (pa_cons (pv 0) (pa_cons (pv 1) pa_nil))) (pa_cons (pe_callB (call_repr hfree hr) (by rfl) B.repr (by decide +kernel) (pa_cons (pe_tup (pa_cons (pv 0) (pa_cons (pv 1) pa_nil))) pa_nil)) pa_nil)) (by rfl))
    (pss_cons (ps_if (PW.pt (pw_or (pt_cmpR op_ne (pe_callB (call_repr hfree hr) (by rfl) B.repr (by decide +kernel) (pa_cons (pe_c Cis_within (hr.mono (by decide)) rfl (pa_cons (pv 0) (pa_cons (pv 1) pa_nil))) pa_nil)) (pe_callB (call_repr hfree hr) (by rfl) B.repr (by decide +kernel) (pa_cons (pe_cmpR (op_neD hr.units) (pv 2) (pe_lst pa_nil) (nomark _)) pa_nil)) (nomark _)) (pw_or1 (pt_cmpR op_ne (pe_callB (call_repr hfree hr) (by rfl) B.repr (by decide +kernel) (pa_cons (pe_tup (pa_cons (pv 0) (pa_cons (pv 1) pa_nil))) pa_nil)) (pv 3) (nomark _))))) (pss_one (ps_ret pe_bl)) pss_nil)
    (pss_one (ps_ret (pe_cmpR op_eq (pe_callB (call_repr hfree hr) (by rfl) B.repr (by decide +kernel) (pa_cons (pe_c Cplace_in (hr.mono (by decide)) rfl (pa_cons (pv 0) (pa_cons (pv 1) pa_nil))) pa_nil)) (pe_callB (call_repr hfree hr) (by rfl) B.repr (by decide +kernel) (pa_cons (pe_ifExp (pt_cmpR (op_neD hr.units) (pv 2) (pe_lst pa_nil) (nomark _)) (pe_ix ix_list (pv 2) pe_int (fun _ _ => rfl)) pe_non) pa_nil)) (nomark _)))))), ?_⟩
  have smW := (sm_tupI sw).up (Nat.le_refl 1) (show w.length * 41 ≤ 600 * 41 by omega)
  have smO := (sm_tupI so).up (Nat.le_refl 1) (show o.length * 41 ≤ 600 * 41 by omega)
  have smP : Sm (.tuple [tupI w, tupI o]) 2 (2 * (600 * 41 + 1)) := sm_tup fun d hd => by
    rcases List.mem_cons.mp hd with rfl | hd
    · exact smW
    · rw [List.mem_singleton.mp hd]
      exact smO
  have smL := sm_plD (w := w) (o := o) (by omega) (by omega)
  have pair : ∀ {σ : L2.St} {M : Hp} {vw vo : V}, σ[0]? = some (some vw) → σ[1]? = some (some vo) → Dp K M vw (tupI w) → Dp K M vo (tupI o) →
      EvD K none (tCB (rRepr K) (tCons (tTup (tCons (tVar 0) (tCons (tVar 1) tNil))) tNil)) σ M (· = .str (PyData.tuple [tupI w, tupI o]).shown) := fun h0 h1 k0 k1 =>
    ed_cb' (el_c (ed_t (el_c (ed_var h0 k0) (el_c (ed_var h1 k1) el_nil))) el_nil) smP.repr
  refine q_par (K := K) (π := none) (M := H0) (Φ2 := fun a b => a = rowsD (M1.allPlaces o w) ∧ b = .str (PyData.tuple [tupI w, tupI o]).shown)
    (el_cons (ed_call (Φ := (· = rowsD (M1.allPlaces o w))) (Φl := (· = [tupI w, tupI o])) (el_c (ed_var rfl dw) (el_c (ed_var rfl d_o) el_nil)) (fun ds e => ⟨w, o, e, hw, ho⟩) (fun ds d e hp => hp w o e)) (el_c (pair rfl rfl dw d_o) el_nil) fun d ds e1 e2 => ⟨d, _, by rw [e2], e1, rfl⟩) o0 fun v u a b M1_ H1 hab s1 kv ku => ?_
  obtain ⟨rfl, rfl⟩ := hab
  have dw1 := dp_ex s1.ex dw
  have do1 := dp_ex s1.ex d_o
  have hne : (!PyData.eqv (rowsD (M1.allPlaces o w)) (.list [])) = inB w o := by
    rw [inB_rows]
    exact congrArg _ (eqv_nilL _ _)
  have rowsNe : ∀ {σ : L2.St} {M : Hp} {v : V}, σ[2]? = some (some v) → Dp K M v (rowsD (M1.allPlaces o w)) → EvD K none (tOp (rNeD K) (tVar 2) (tLst tNil)) σ M (· = .bool (inB w o)) := fun h k =>
    (ed_op' (ed_var h k) (ed_l el_nil) (od_neD (sm_rows _) (sm_rows []))).imp fun d e => by rw [e, hne]
  refine q_when (K := K) (π := none) (M := M1_) (Φb := (· = false)) ((eb_or' (a := false) (b := false) ((eb_t (ed_op' (ed_cb' (el_c (ed_call (Φ := (· = .bool (inB w o))) (Φl := (· = [tupI w, tupI o])) (el_c (ed_var rfl dw1) (el_c (ed_var rfl do1) el_nil)) (fun ds e => ⟨w, o, e, by omega, by omega⟩) (fun ds d e hp => hp w o e)) el_nil) (sm_bool _).repr) (ed_cb' (el_c (rowsNe rfl kv) el_nil) (sm_bool _).repr) od_neS)).imp fun b e => by rw [e, decide_eq_true rfl]; rfl)
    (fun _ => (eb_t (ed_op' (pair rfl rfl dw1 do1) (ed_var rfl ku) od_neS)).imp fun b e => by rw [e, decide_eq_true rfl]; rfl)).imp fun b e => e) (s1.okk o0) (fun z => by cases z) fun _ M2 H2 s2 => ?_
  have S2 := s1.trans s2 o0
  have kv2 := dp_ex s2.ex kv
  refine s_ret (K := K) (π := none) (M := M2) (Φ := (· = .bool true)) ((ed_op' (ed_cb' (el_c (ed_call (Φ := (· = plD w o)) (Φl := (· = [tupI w, tupI o])) (el_c (ed_var rfl (dp_ex s2.ex dw1)) (el_c (ed_var rfl (dp_ex s2.ex do1)) el_nil)) (fun ds e => ⟨w, o, e, by omega, by omega⟩) (fun ds d e hp => hp w o e)) el_nil) smL.repr)
    (ed_cb' (el_c (d := plD w o) (ed_if (Φb := (· = inB w o)) (eb_t (rowsNe rfl kv2)) (fun hb => ?_) (fun hb => ?_)) el_nil) smL.repr) od_eqS).imp fun d e => by rw [e, decide_eq_true rfl]) (S2.okk o0) (q.go o0 S2 fun d e => e)
  · have e1 := rows_first w o
    unfold inB at hb
    cases eg : M1.greedy o w 0 with
    | none =>
      rw [eg] at hb
      cases hb
    | some ps =>
      rw [eg] at e1
      obtain ⟨tl, htl⟩ : ∃ tl, M1.allPlaces o w = ps :: tl := by
        cases er : M1.allPlaces o w with
        | nil => rw [er] at e1; cases e1
        | cons a b =>
          rw [er] at e1
          cases e1
          exact ⟨b, rfl⟩
      refine (ed_op' (ed_var rfl kv2) ed_i (od_ixL (d := tupN ps) (atI_nat (j := 0) (by rw [htl]; rfl)))).imp fun d e => ?_
      rw [e]
      unfold plD
      rw [eg]
  · unfold inB at hb
    cases eg : M1.greedy o w 0 with
    | none =>
      refine ed_n.imp fun d e => ?_
      rw [e]
      unfold plD
      rw [eg]
    | some ps =>
      rw [eg] at hb
      cases hb
end
end K01

set_option maxRecDepth 100000
set_option maxHeartbeats 4000000
namespace K01
open PySem PySem.Spec PyProof.Rows L2 Gd Dt Dl
open Evl (Ex Ex.refl Ex.trans Ex.new ex_l ex_t sq_of st_of fresh_back)
section
variable {P : Program} {w : World} {K : PySem.W.Frag} {mg : Str → Option Value} {base : Heap}
/-! ### cuts, far words -/
def cutL {α : Type} (xs : List α) (lo hi : Option Int) : List α := (xs.drop (HT.sIx xs.length 0 lo)).take (HT.sIx xs.length xs.length hi - HT.sIx xs.length 0 lo)
theorem cutD_map {α : Type} (xs : List α) (f : α → PyData) (lo hi : Option Int) : Dl.cutD (xs.map f) lo hi = (cutL xs lo hi).map f := by
  unfold Dl.cutD cutL
  rw [List.length_map, List.map_take, List.map_drop]
theorem cutL_mem {α : Type} {xs : List α} {lo hi : Option Int} {x : α} (h : x ∈ cutL xs lo hi) : x ∈ xs := List.mem_of_mem_drop (List.mem_of_mem_take h)
theorem sIx_neg (n d k : Nat) (hk : 0 < k) : HT.sIx n d (some (-(k : Int))) = n - k := by
  show (if -(k : Int) < 0 then (-(k : Int) + (n : Int)).toNat else min (-(k : Int)).toNat n) = n - k
  rw [if_pos (by omega)]
  omega
theorem cut_to {α : Type} (xs : List α) (k : Nat) : cutL xs none (some (k : Int)) = xs.take k := by
  unfold cutL
  have h1 : HT.sIx xs.length 0 none = 0 := rfl
  rw [h1, HT.sIx_nat, List.drop_zero, Nat.sub_zero]
  by_cases h : k ≤ xs.length
  · rw [Nat.min_eq_left h]
  · rw [Nat.min_eq_right (by omega), List.take_length, List.take_of_length_le (by omega)]
theorem cut_last {α : Type} (xs : List α) (k : Nat) (hk : 0 < k) : (cutL xs (some (-(k : Int))) none).length ≤ k := by
  unfold cutL
  have h1 : HT.sIx xs.length xs.length none = xs.length := rfl
  rw [h1, sIx_neg _ _ _ hk, List.length_take, List.length_drop]
  omega
theorem ed_slL {π : Option Pn} {σ : L2.St} {H0 : Hp} {te : TE} {tlo thi : TO} {lo hi : Option Int} {ds : List PyData} (h : EvD K π te σ H0 (· = .list ds)) (hl : EvO K π tlo σ H0 lo) (hu : EvO K π thi σ H0 hi) : EvD K π (tSl (rSlL K) te tlo thi) σ H0 (· = .list (Dl.cutD ds lo hi)) := fun H1 o Q q =>
  h H1 o _ fun v d N H2 e s hv => hl.mono s.ex H2 (s.okk o) _ fun N2 H3 s2 => hu.mono (s.ex.trans s2.ex) H3 (s2.okk (s.okk o)) _ fun N3 H4 s3 => by
    subst e
    have S := (s.trans s2 o).trans s3 o
    have o4 := S.okk o
    obtain ⟨a, xs, rfl, hs, hd⟩ := dp_lst (dp_ex (s2.ex.trans s3.ex) hv)
    refine ⟨a, xs, rfl, ex_l o4.ex hs, fun p hp => ?_⟩
    have s4 := o4.new hp (Ex.new hp) (upd_same (o := .lst (cutV xs lo hi)))
    exact q _ _ _ _ rfl (S.trans s4 o) (.lst (sq_of upd_same) (dps_ex s4.ex (dps_cut lo hi hd)))
def WOK (w : List Int) : Prop := w.length ≤ 4 ∧ ∀ x ∈ w, x.natAbs < 10 ^ 12
def Lets (w : List Int) : Prop := ∀ x ∈ w, x.natAbs < 10 ^ 12
theorem lets_word {l n : Int} {w : List Int} (h : IsWord l n w) (hl : l ≤ 1000) : Lets w := fun x hx => by
  have := h.2 x hx
  have : (10 : Nat) ^ 12 = 1000000000000 := by decide
  omega
def Words (k : Nat) : List PyData → Prop := fun ds => ∃ ws : List (List Int), ds = ws.map tupI ∧ ws.length = k ∧ ∀ w ∈ ws, WOK w
theorem el_word {π : Option Pn} {σ : L2.St} {H0 : Hp} {te : TE} {tl : TA} {k : Nat} (h : EvD K π te σ H0 (fun d => ∃ w : List Int, d = tupI w ∧ WOK w)) (ht : EvL K π tl σ H0 (Words k)) : EvL K π (tCons te tl) σ H0 (Words (k + 1)) :=
  el_cons h ht fun d ds hd hds => by
    obtain ⟨w, rfl, hw⟩ := hd
    obtain ⟨ws, rfl, hl, hws⟩ := hds
    refine ⟨w :: ws, rfl, by rw [List.length_cons, hl], fun x hx => ?_⟩
    rcases List.mem_cons.mp hx with rfl | hx
    · exact hw
    · exact hws x hx
theorem el_words0 {π : Option Pn} {σ : L2.St} {H0 : Hp} : EvL K π tNil σ H0 (Words 0) := el_nil.imp fun ds e => ⟨[], e, rfl, fun x hx => by cases hx⟩
theorem rep_map (n : Nat) (w : List Int) : (List.replicate n (w.map PyData.int)).flatten = ((List.replicate n w).flatten).map .int := by
  induction n with
  | zero => rfl
  | succ n ih => rw [List.replicate_succ, List.replicate_succ, List.flatten_cons, List.flatten_cons, ih, List.map_append]
theorem rep2 {w : List Int} (h : w.length ≤ 1) (hl : Lets w) : WOK (List.replicate 2 w).flatten := by
  refine ⟨?_, fun x hx => ?_⟩
  · simp only [List.replicate, List.flatten_cons, List.flatten_nil, List.append_nil, List.length_append]
    omega
  · simp only [List.replicate, List.flatten_cons, List.flatten_nil, List.append_nil, List.mem_append, or_self] at hx
    exact hl x hx
def far : List Int := (List.replicate 99 [0, 1]).flatten ++ [2]
def far3 : List Int := (List.replicate 3 far).flatten
theorem far_len : far.length = 199 := by decide +kernel
theorem far3_len : far3.length = 597 := by decide +kernel
theorem far_a : ∀ n < 99, inB (List.replicate n 0 ++ [2]) far = true := by decide +kernel
theorem far_b : inB [2, 0] far = false := by decide +kernel
theorem far_c : inB (List.replicate 101 1) far = false := by decide +kernel
theorem far_d : ∀ n < 99, M1.greedy far (List.replicate n 1) 0 = some ((List.range n).map fun k => 2 * k + 1) := by decide +kernel
theorem far_e : inB [2, 2, 2, 2] far3 = false := by decide +kernel
theorem far_f : M1.greedy far3 [2, 2, 2] 0 = some [198, 397, 596] := by decide +kernel
theorem far_g : inB far far = true := by decide +kernel
theorem far_h : inB far3 far3 = true := by decide +kernel
theorem far_i : inB [0] [1] = true ∧ inB [1] [0] = false := by decide +kernel
end
end K01

set_option maxRecDepth 100000
set_option maxHeartbeats 4000000
namespace K01
open PySem PySem.Spec PyProof.Rows L2 Gd Dt Dl
open Evl (Ex Ex.refl Ex.trans Ex.new ex_l ex_t sq_of st_of fresh_back)
abbrev sLaw : Stmt := top 11
section
variable {P : Program} {w : World} {K : PySem.W.Frag} {mg : Str → Option Value} {base : Heap}
/-! ### the law -/
def spLaw (K : PySem.W.Frag) : Sp := fun vs H Q _ => ∃ (a : Addr) (ns : List Int), vs = [.ref a] ∧ SqL K H a (ns.map V.int) ∧ ns.length ≤ 63 ∧ ∀ H', Q (.bl true) H'
theorem scLaw : FnScope ["script", "pen", "lap", "other", "some", "words", "one", "two", "due", "far", "at", "letter", "word", "more", "place"] ["script"] (defScope sLaw) := ⟨rfl, rfl, rfl, by decide +kernel, rfl, by decide +kernel, by decide +kernel⟩
theorem ok_law {f : Addr} {fd : FuncData} (F : Fun K "law" "law" sLaw f fd) (B : Blt mg) (C_law_pen : Cal P w K mg base "_law_pen" 1 ["script"] (spPen K)) (C_law_draw : Cal P w K mg base "_law_draw" 2 ["pen", "bound"] (spP K drawPre drawPost))
    (C_law_drawn_word : Cal P w K mg base "_law_drawn_word" 3 ["pen", "letters", "most"] (spP K dwPre dwPost)) (C_law_places : Cal P w K mg base "_law_places" 1 ["word", "other"] (spD K smPre lpPost)) (C_law_right : CalG P w K mg base "_law_right" 3 ["word", "other"] (spD K rtPre rtPost))
    (Cis_within : Cal P w K mg base "is_within" 2 ["word", "other"] (spD K wPre inPost)) (Cplace_in : Cal P w K mg base "place_in" 1 ["word", "other"] (spD K wPre plPost)) (Care_within : Cal P w K mg base "are_within" 3 ["words", "others"] (spD K rowsPre rowsPost)) :
    Fn P w K mg base 4 f fd ["script"] (spLaw K) := by
  refine Gd.ok F scLaw (fun vs H Q E h => ?_) (fun cdv A outer s H vs Q E hg hr h => ?_)
  · obtain ⟨a, ns, rfl, _⟩ := h
    rfl
  obtain ⟨a, ns, rfl, hS, hn, q⟩ := h
  have nd := scLaw.nd
  have hfree : Free (A.deeper (envOfC "law" (defScope sLaw) s.heap.objs.size f cdv)) := hg
  refine ⟨_, (pss_cons (ps_set (i := 1) nd rfl (Or.inr rfl) (pe_c C_law_pen (hr.mono (by decide)) rfl (pa_cons (pv 0) pa_nil)))
    (pss_cons (ps_for PassesOwn.never rfl (pi_range1 rfl B.range (pa_cons pe_int pa_nil)) (pg_name (i := 2) nd rfl (Or.inl rfl)) (pss_cons (ps_set (i := 3) nd rfl (Or.inr rfl) (pe_c C_law_drawn_word (hr.mono (by decide)) rfl (pa_cons (pv 1) (pa_cons (pe_op op_add pe_int (pe_c C_law_draw (hr.mono (by decide)) rfl (pa_cons (pv 1) (pa_cons pe_int pa_nil)))) (pa_cons pe_int pa_nil)))))
    (pss_cons (ps_set (i := 4) nd rfl (Or.inl rfl) (pe_callTy call_tuple_of (by rfl) B.tuple (by decide +kernel) (pa_cons (pe_lc (own := [("letter", 11)]) (g := (gName 11)) (tt := (tTest (tOp rEq (tCall (spP K drawPre drawPost) [] E0 (tCons (tVar 1) (tCons (tC (.int 2)) tNil))) (tC (.int 0))))) (te := (tVar 11)) rfl nd (pi_tup (pv 3)) (blkOk_by (own := [("letter", 11)]) (N := ["script", "pen", "lap", "other", "some", "words", "one", "two", "due", "far", "at", "letter", "word", "more", "place"]) (sc := defScope sLaw) (by decide +kernel)) (fun _ _ _ _ _ => pg_name (i := 11) nd rfl (Or.inl rfl)) (fun _ _ _ _ _ => pts_one (pt_cmpR op_eq (pe_c C_law_draw (hr.mono (by decide)) rfl (pa_cons (pv 1) (pa_cons pe_int pa_nil))) pe_int (nomark _))) (fun _ _ _ _ _ => (pv 11))) pa_nil)))
    (pss_cons (ps_set (i := 5) nd rfl (Or.inl rfl) (pe_lst (pa_cons (pe_slice sl_tupA (pv 4) po_none (po_some pe_int)) (pa_cons (pe_c C_law_drawn_word (hr.mono (by decide)) rfl (pa_cons (pv 1) (pa_cons pe_int (pa_cons pe_int pa_nil)))) (pa_cons (pe_tup pa_nil) (pa_cons (pe_slice sl_tupA (pv 4) (po_some (pe_un un_neg pe_int)) po_none) (pa_cons (pe_op op_repA (pe_slice sl_tupA (pv 3) (po_some (pe_un un_neg pe_int)) po_none) pe_int) (pa_cons (pe_op op_repA (pe_slice sl_tupA (pv 3) po_none (po_some pe_int)) pe_int) pa_nil))))))))
    (pss_cons (ps_if (pt_cmpR (op_neD hr.units) (pe_lc (own := [("word", 12)]) (g := (gName 12)) (tt := (tNot (tB (tGo (spD K rtPre rtPost) (tCons (tVar 12) (tCons (tVar 3) tNil)))))) (te := (tC (.int 1))) rfl nd (pi_list (pv 5)) (blkOk_by (own := [("word", 12)]) (N := ["script", "pen", "lap", "other", "some", "words", "one", "two", "due", "far", "at", "letter", "word", "more", "place"]) (sc := defScope sLaw) (by decide +kernel)) (fun _ _ _ _ _ => pg_name (i := 12) nd rfl (Or.inl rfl)) (fun _ _ _ _ _ => pts_one (pt_not (pt_val (pe_cg C_law_right hfree (hr.mono (by decide)) rfl (pa_cons (pv 12) (pa_cons (pv 3) pa_nil)))))) (fun _ _ _ _ _ => pe_int)) (pe_lst pa_nil) (nomark _)) (pss_one (ps_ret pe_bl)) pss_nil)
    (pss_cons (ps_par (i := 6) (j := 7) rfl nd rfl rfl (by decide) rfl rfl (pa_cons (pe_callTy call_tuple_of (by rfl) B.tuple (by decide +kernel) (pa_cons (pe_slice sl_list (pv 5) po_none (po_some pe_int)) pa_nil)) (pa_cons (pe_tup (pa_cons (pv 3) (pa_cons (pe_c C_law_drawn_word (hr.mono (by decide)) rfl (pa_cons (pv 1) (pa_cons pe_int (pa_cons pe_int pa_nil)))) (pa_cons (pv 3) pa_nil)))) pa_nil)) (by rfl))
    (pss_cons (ps_set (i := 8) nd rfl (Or.inl rfl) (pe_cmpR (op_eqD hr.units) (pe_lc (own := [("word", 12), ("more", 13)]) (g := (gTup K 2 (gCons (gName 12) (gCons (gName 13) gNil)))) (tt := (tTest (tOp (rEqD K) (tCall (spD K smPre lpPost) [] E0 (tCons (tVar 12) (tCons (tVar 13) tNil))) (tLst tNil)))) (te := (tC (.int 1))) rfl nd (RZ.pi_zipA rfl B.zip (pa_cons (pv 6) (pa_cons (pv 7) pa_nil))) (blkOk_by (own := [("word", 12), ("more", 13)]) (N := ["script", "pen", "lap", "other", "some", "words", "one", "two", "due", "far", "at", "letter", "word", "more", "place"]) (sc := defScope sLaw) (by decide +kernel)) (fun _ _ _ _ _ => pg_tup rfl (pgs_cons (pg_name (i := 12) nd rfl (Or.inl rfl)) (pgs_cons (pg_name (i := 13) nd rfl (Or.inl rfl)) pgs_nil))) (fun _ _ _ _ _ => pts_one (pt_cmpR (op_eqD hr.units) (pe_c C_law_places (hr.mono (by decide)) rfl (pa_cons (pv 12) (pa_cons (pv 13) pa_nil))) (pe_lst pa_nil) (nomark _))) (fun _ _ _ _ _ => pe_int)) (pe_lst pa_nil) (nomark _)))
    (pss_one (ps_if (PW.pt (pw_or (pt_cmpR op_ne (pe_callB (call_repr hfree hr) (by rfl) B.repr (by decide +kernel) (pa_cons (pe_c Care_within (hr.mono (by decide)) rfl (pa_cons (pv 6) (pa_cons (pv 7) pa_nil))) pa_nil)) (pe_callB (call_repr hfree hr) (by rfl) B.repr (by decide +kernel) (pa_cons (pv 8) pa_nil)) (nomark _)) (pw_or1 (pt_not (pt_val (pe_cg C_law_right hfree (hr.mono (by decide)) rfl (pa_cons (pe_slice sl_tupA (pv 3) po_none (po_some pe_int)) (pa_cons (pe_revT (pv 3)) pa_nil)))))))) (pss_one (ps_ret pe_bl)) pss_nil)))))))))
    (pss_cons (ps_par (i := 9) (j := 10) rfl nd rfl rfl (by decide) rfl rfl (pa_cons (pe_op op_catA (pe_op op_repA (pe_tup (pa_cons pe_int (pa_cons pe_int pa_nil))) pe_int) (pe_tup (pa_cons pe_int pa_nil))) (pa_cons (pe_c C_law_draw (hr.mono (by decide)) rfl (pa_cons (pv 1) (pa_cons pe_int pa_nil))) pa_nil)) (by rfl))
    (pss_cons (ps_if (PW.pt (pw_or (pt_not (pt_val (pe_c Cis_within (hr.mono (by decide)) rfl (pa_cons (pe_op op_catA (pe_op op_repA (pe_tup (pa_cons pe_int pa_nil)) (pv 10)) (pe_tup (pa_cons pe_int pa_nil))) (pa_cons (pv 9) pa_nil))))) (pw_or (pt_val (pe_c Cis_within (hr.mono (by decide)) rfl (pa_cons (pe_tup (pa_cons pe_int (pa_cons pe_int pa_nil))) (pa_cons (pv 9) pa_nil)))) (pw_or1 (pt_val (pe_c Cis_within (hr.mono (by decide)) rfl (pa_cons (pe_op op_repA (pe_tup (pa_cons pe_int pa_nil)) pe_int) (pa_cons (pv 9) pa_nil)))))))) (pss_one (ps_ret pe_bl)) pss_nil)
    (pss_cons (ps_if (PW.pt (pw_or (pt_cmpR (op_neD hr.units) (pe_c Cplace_in (hr.mono (by decide)) rfl (pa_cons (pe_op op_repA (pe_tup (pa_cons pe_int pa_nil)) (pv 10)) (pa_cons (pv 9) pa_nil))) (pe_callTy call_tuple_of (by rfl) B.tuple (by decide +kernel) (pa_cons (pe_lc (own := [("place", 14)]) (g := (gName 14)) (tt := tYes) (te := (tOp (rI0 fun i j => .int (i + j)) (tOp (rI CMul fun i j => .int (i * j)) (tC (.int 2)) (tVar 14)) (tC (.int 1)))) rfl nd (pi_range1 rfl B.range (pa_cons (pv 10) pa_nil)) (blkOk_by (own := [("place", 14)]) (N := ["script", "pen", "lap", "other", "some", "words", "one", "two", "due", "far", "at", "letter", "word", "more", "place"]) (sc := defScope sLaw) (by decide +kernel)) (fun _ _ _ _ _ => pg_name (i := 14) nd rfl (Or.inl rfl)) (fun _ _ _ _ _ => pts_nil) (fun _ _ _ _ _ => (pe_op op_add (pe_op op_mul pe_int (pv 14)) pe_int))) pa_nil)) (nomark _)) (pw_or1 (pt_cmpR (op_neD hr.units) (pe_c Cplace_in (hr.mono (by decide)) rfl (pa_cons (pe_tup pa_nil) (pa_cons (pv 9) pa_nil))) (pe_tup pa_nil) (nomark _))))) (pss_one (ps_ret pe_bl)) pss_nil)
    (pss_cons (ps_if (PW.pt (pw_or (pt_val (pe_c Cis_within (hr.mono (by decide)) rfl (pa_cons (pe_op op_repA (pe_tup (pa_cons pe_int pa_nil)) pe_int) (pa_cons (pe_op op_repA (pv 9) pe_int) pa_nil)))) (pw_or1 (pt_cmpR (op_neD hr.units) (pe_c Cplace_in (hr.mono (by decide)) rfl (pa_cons (pe_op op_repA (pe_tup (pa_cons pe_int pa_nil)) pe_int) (pa_cons (pe_op op_repA (pv 9) pe_int) pa_nil))) (pe_tup (pa_cons pe_int (pa_cons pe_int (pa_cons pe_int pa_nil)))) (nomark _))))) (pss_one (ps_ret pe_bl)) pss_nil)
    (pss_one (ps_ret (pe_and (pe_c Cis_within (hr.mono (by decide)) rfl (pa_cons (pv 9) (pa_cons (pv 9) pa_nil))) (pe_and (pe_c Cis_within (hr.mono (by decide)) rfl (pa_cons (pe_tup (pa_cons pe_int pa_nil)) (pa_cons (pe_tup (pa_cons pe_int pa_nil)) pa_nil))) (pe_and (pe_not (pe_c Cis_within (hr.mono (by decide)) rfl (pa_cons (pe_tup (pa_cons pe_int pa_nil)) (pa_cons (pe_tup (pa_cons pe_int pa_nil)) pa_nil)))) (pe_one (pe_c Cis_within (hr.mono (by decide)) rfl (pa_cons (pe_op op_repA (pv 9) pe_int) (pa_cons (pe_op op_repA (pv 9) pe_int) pa_nil))))))))))))))), ?_⟩
  refine ⟨_, rfl, a, ns, rfl, hS, hn, fun p H1 o1 => ?_⟩
  show tSeq _ _ _ _ H1
  refine q_for (K := K) (π := some p) (M := H) (Φx := (· = upto 0 8)) (ei_range1 (Φl := (· = [.int 8])) (el_c ed_i el_nil) (fun ds e => ⟨8, e, by decide, by decide, rfl⟩)) o1 tg1 (fun _ _ _ _ => trivial)
    (fun xs i σ' M' H' => Okk K (some p) M' H' ∧ ∃ a2 a3 a4 a5 a6 a7 a8 : Option V, σ' = [some (.ref a), some (.ref p.p), a2, a3, a4, a5, a6, a7, a8, none, none, none, none, none, none]) ?_ ?_ ?_ ?_
  · rintro xs i σ' M' H' ⟨o, _⟩
    exact o
  · rintro xs N H2 rfl s2
    exact ⟨s2.okk o1, _, _, _, _, _, _, _, rfl⟩
  · rintro xs i d σ' M' H' M2 H2 σ2 rfl e1 ⟨o2, a2, a3, a4, a5, a6, a7, a8, rfl⟩ s2 ed ⟨x, kx, rfl⟩
    have o3 := s2.okk o2
    -- other
    refine q_asg (K := K) (π := some p) (M := M2) (Φ := fun d => ∃ o : List Int, d = tupI o ∧ o.length ≤ 12 ∧ Lets o) (ed_callP (Φl := fun ds => ∃ l : Int, ds = [.int l, .int 12] ∧ 1 ≤ l ∧ l ≤ 3) rfl
      (el_cons (Φ := fun d => ∃ l : Int, d = .int l ∧ 1 ≤ l ∧ l ≤ 3) (ed_op (Φa := (· = .int 1)) (Φb := fun d => ∃ z : Int, d = .int z ∧ 0 ≤ z ∧ z < 3) ed_i (ed_callP (Φl := (· = [.int 3])) rfl (el_c ed_i el_nil) (fun ds e => ⟨3, e, by decide, b300 (by decide)⟩) (fun ds d e hp => hp 3 e)) fun x y hx hy => ?_) (el_c ed_i el_nil) fun d ds hd e => ?_)
      (fun ds hd => ?_) (fun ds d hd hp => ?_)) o3 fun vo d M3 H3 hd s3 ko => ?_
    · subst hx
      obtain ⟨z, rfl, z0, z1⟩ := hy
      exact fun x y H0 H1 hx hy o Q q => od_add x y H0 H1 hx hy o Q fun v d N H2 e => q v d N H2 ⟨_, e, by omega, by omega⟩
    · obtain ⟨l, rfl, h1, h2⟩ := hd
      exact ⟨l, by rw [e], h1, h2⟩
    · obtain ⟨l, rfl, h1, h2⟩ := hd
      exact ⟨l, 12, rfl, h1, by omega, by decide, by decide⟩
    · obtain ⟨l, rfl, h1, h2⟩ := hd
      obtain ⟨w, rfl, hw⟩ := hp l 12 rfl
      have := hw.1
      exact ⟨w, rfl, by omega, lets_word hw (by omega)⟩
    obtain ⟨o, rfl, ho, hlo⟩ := hd
    have o4 := s3.okk o3
    -- some
    refine q_asg (K := K) (π := some p) (M := M3) (Φ := fun d => ∃ t : List Int, d = tupI t ∧ t.length ≤ 12 ∧ Lets t) (ed_cb (Φl := fun ds => ∃ t : List Int, ds = [.list (t.map .int)] ∧ t.length ≤ 12 ∧ Lets t) (el_cons (Φ := fun d => ∃ t : List Int, d = .list (t.map .int) ∧ t.length ≤ 12 ∧ Lets t) (EvF.ed (Φl := fun ds => ∃ t : List Int, ds = t.map .int ∧ t.length ≤ 12 ∧ Lets t)
      (ef_lc (Φx := (· = o.map .int)) (T := T1 K 11) (ei_tup (ed_var rfl ko)) tg1 (fun _ _ _ _ => trivial) ?_ ?_ (fun xs i acc => ∃ t : List Int, acc = t.map .int ∧ t.length ≤ i ∧ Lets t) ?_ ?_ ?_) fun ds hd => ?_) el_nil fun d ds hd e => ?_) fun ds hd => ?_) o4 fun vt d M4 H4 hd s4 kt => ?_
    · rintro xs rfl
      rw [List.length_map]
      omega
    · rintro d M σ' ⟨x, _, rfl⟩
      rfl
    · rintro xs rfl
      exact ⟨[], rfl, Nat.le_refl _, fun x hx => by cases hx⟩
    · rintro xs j d acc M σ' rfl ed e5 ⟨x, kx', rfl⟩ ⟨t, rfl, ht, hlt⟩
      rw [List.getElem?_map] at ed
      obtain ⟨li, hli, rfl⟩ := Option.map_eq_some_iff.mp ed
      refine ⟨fun _ => True, eb_test (Φ := fun d => ∃ b, d = .bool b) (ed_op (Φa := fun d => ∃ z : Int, d = .int z) (Φb := (· = .int 0)) (ed_callP (Φl := (· = [.int 2])) rfl (el_c ed_i el_nil) (fun ds e => ⟨2, e, by decide, b300 (by decide)⟩) (fun ds d e hp => ?_)) ed_i fun x y hx hy => ?_) fun d hd => ?_, fun _ => ?_, fun _ => ⟨t, rfl, by omega, hlt⟩⟩
      · obtain ⟨z, hz, _⟩ := hp 2 e
        exact ⟨z, hz⟩
      · obtain ⟨z, rfl⟩ := hx
        subst hy
        exact fun x y H0 H1 hx hy o Q q => od_eqI x y H0 H1 hx hy o Q fun v d N H2 e => q v d N H2 ⟨_, e⟩
      · obtain ⟨b, rfl⟩ := hd
        exact ⟨b, rfl, trivial⟩
      · refine (ed_var rfl kx').imp fun y e => ?_
        refine ⟨t ++ [li], by rw [e]; simp, by rw [List.length_append, List.length_singleton]; omega, fun x hx => ?_⟩
        rcases List.mem_append.mp hx with h | h
        · exact hlt x h
        · rw [List.mem_singleton.mp h]
          exact hlo li (List.mem_of_getElem? hli)
    · rintro xs acc rfl ⟨t, rfl, ht, hlt⟩
      rw [List.length_map] at ht
      exact ⟨t, rfl, by omega, hlt⟩
    · obtain ⟨t, rfl, h⟩ := hd
      exact ⟨t, rfl, h⟩
    · obtain ⟨t, rfl, h⟩ := hd
      exact ⟨t, by rw [e], h⟩
    · obtain ⟨t, rfl, h⟩ := hd
      exact fun vs H0 H1 h1 o Q q => cb_tupL vs H0 H1 h1 o Q fun v d N H2 e => q v d N H2 ⟨t, e, h⟩
    obtain ⟨t, rfl, ht, hlt⟩ := hd
    have o5 := s4.okk o4
    have ko4 := dp_ex s4.ex ko
    -- words
    have cutW : ∀ {w : List Int} {lo hi : Option Int}, (cutL w lo hi).length ≤ 4 → Lets w → WOK (cutL w lo hi) := fun h hl => ⟨h, fun x hx => hl x (cutL_mem hx)⟩
    refine q_asg (K := K) (π := some p) (M := M4) (Φ := fun d => ∃ ws : List (List Int), d = .list (ws.map tupI) ∧ ws.length = 6 ∧ ∀ w ∈ ws, WOK w) (ed_lst (Φl := Words 6) (el_word (k := 5) ?_ (el_word (k := 4) ?_ (el_word (k := 3) ?_ (el_word (k := 2) ?_ (el_word (k := 1) ?_ (el_word (k := 0) ?_ el_words0)))))) (fun ds hd => ?_) fun ds hd => ?_) o5 fun vws d M5 H5 hd s5 kws => ?_
    · refine (ed_slT (ed_var rfl kt) eo_no (eo_part ed_i)).imp fun d e => ⟨cutL t none (some 4), ?_, cutW ?_ hlt⟩
      · rw [e, cutD_map]
        rfl
      · rw [show (some (4 : Int)) = some ((4 : Nat) : Int) from rfl, cut_to, List.length_take]
        omega
    · refine ed_callP (Φl := (· = [.int 3, .int 4])) rfl (el_c ed_i (el_c ed_i el_nil)) (fun ds e => ⟨3, 4, e, by decide, by decide, by decide, by decide⟩) (fun ds d e hp => ?_)
      obtain ⟨w, rfl, hw⟩ := hp 3 4 e
      have := hw.1
      exact ⟨w, rfl, by omega, lets_word hw (by decide)⟩
    · exact (ed_t el_nil).imp fun d e => ⟨[], e, by decide, fun x hx => by cases hx⟩
    · refine (ed_slT (ed_var rfl kt) (eo_part (ed_neg ed_i)) eo_no).imp fun d e => ⟨cutL t (some (-3)) none, ?_, cutW ?_ hlt⟩
      · rw [e, cutD_map]
        rfl
      · have := cut_last t 3 (by decide)
        exact Nat.le_trans this (by decide)
    · refine (ed_op' (ed_slT (ed_var rfl ko4) (eo_part (ed_neg ed_i)) eo_no) ed_i (od_rep (by decide) (by decide) ?_)).imp fun d e => ⟨(List.replicate 2 (cutL o (some (-1)) none)).flatten, ?_, rep2 ?_ fun x hx => hlo x (cutL_mem hx)⟩
      · rw [cutD_map, List.length_map]
        have := cut_last o 1 (by decide)
        exact Nat.le_trans this (by decide)
      · rw [e, cutD_map, rep_map]
        rfl
      · exact cut_last o 1 (by decide)
    · refine (ed_op' (ed_slT (ed_var rfl ko4) eo_no (eo_part ed_i)) ed_i (od_rep (by decide) (by decide) ?_)).imp fun d e => ⟨(List.replicate 2 (cutL o none (some 1))).flatten, ?_, rep2 ?_ fun x hx => hlo x (cutL_mem hx)⟩
      · rw [cutD_map, List.length_map, show (some (1 : Int)) = some ((1 : Nat) : Int) from rfl, cut_to, List.length_take]
        omega
      · rw [e, cutD_map, rep_map]
        rfl
      · rw [show (some (1 : Int)) = some ((1 : Nat) : Int) from rfl, cut_to, List.length_take]
        omega
    · obtain ⟨ws, rfl, hl, _⟩ := hd
      rw [List.length_map]
      omega
    · obtain ⟨ws, rfl, h⟩ := hd
      exact ⟨ws, rfl, h⟩
    obtain ⟨ws, rfl, hws, hwok⟩ := hd
    have o6 := s5.okk o5
    have ko5 := dp_ex s5.ex ko4
    have shN : SeqAt.shaped (.list []) = true := rfl
    -- no word is wrong
    refine q_when (K := K) (π := some p) (M := M5) (Φb := (· = false)) ((eb_t (ed_op' (EvF.ed (Φl := (· = [])) (ef_lc (Φx := (· = ws.map tupI)) (T := T1 K 12) (ei_lst (ed_var rfl kws)) tg1 (fun _ _ _ _ => trivial) ?_ ?_ (fun xs i acc => acc = []) ?_ ?_ ?_) fun ds e => by rw [e]) (ed_l el_nil) (od_neD shN shN))).imp fun b e => e) o6 (fun z => by cases z) fun _ M6 H6 s6 => ?_
    · rintro xs rfl
      rw [List.length_map]
      omega
    · rintro d M σ' ⟨x, _, rfl⟩
      rfl
    · rintro xs rfl
      rfl
    · rintro xs j d acc M σ' rfl ed e5 ⟨x, kx', rfl⟩ rfl
      rw [List.getElem?_map] at ed
      obtain ⟨wj, hwj, rfl⟩ := Option.map_eq_some_iff.mp ed
      have hw := hwok wj (List.mem_of_getElem? hwj)
      exact ⟨(· = false), eb_not' (a := true) (eb_b (ed_go (Φl := (· = [tupI wj, tupI o])) (el_c (ed_var rfl kx') (el_c (ed_var rfl (dp_ex e5 ko5)) el_nil)) (fun ds e => ⟨wj, o, e, hw.1, ho, hw.2, hlo⟩) (fun ds d e hp => hp))), (fun z => by cases z), fun _ => rfl⟩
    · rintro xs acc rfl e
      exact e
    have o7 := s6.okk o6
    have ko6 := dp_ex s6.ex ko5
    have kws6 := dp_ex s6.ex kws
    -- one, two
    refine q_par (K := K) (π := some p) (M := M6) (Φ2 := fun x y => x = .tuple ((ws.take 3).map tupI) ∧ ∃ u : List Int, y = .tuple ([o, u, o].map tupI) ∧ u.length ≤ 8)
      (el_cons (Φl := fun ds => ∃ u : List Int, ds = [.tuple ([o, u, o].map tupI)] ∧ u.length ≤ 8) (ed_cb' (el_c (ed_slL (ed_var rfl kws6) eo_no (eo_part ed_i)) el_nil) cb_tupL) (el_cons (Φ := fun d => ∃ u : List Int, d = .tuple ([o, u, o].map tupI) ∧ u.length ≤ 8) (ed_tup (Φl := fun ds => ∃ u : List Int, ds = [o, u, o].map tupI ∧ u.length ≤ 8)
        (el_cons (Φl := fun ds => ∃ u : List Int, ds = [u, o].map tupI ∧ u.length ≤ 8) (ed_var rfl ko6) (el_cons (Φl := (· = [tupI o])) (Φ := fun d => ∃ u : List Int, d = tupI u ∧ u.length ≤ 8) (ed_callP (Φl := (· = [.int 3, .int 8])) rfl (el_c ed_i (el_c ed_i el_nil)) (fun ds e => ⟨3, 8, e, by decide, by decide, by decide, by decide⟩) (fun ds d e hp => ?_)) (el_c (ed_var rfl ko6) el_nil) fun d ds hd e => ?_) fun d ds e hd => ?_) (fun ds hd => ?_) fun ds hd => ?_) el_nil fun d ds hd e => ?_) fun d ds e hd => ?_) o7 fun v1 v2 x y M7 H7 hxy s7 k1 k2 => ?_
    · obtain ⟨w, rfl, hw⟩ := hp 3 8 e
      have := hw.1
      exact ⟨w, rfl, by omega⟩
    · obtain ⟨u, rfl, hu⟩ := hd
      exact ⟨u, by rw [e]; rfl, hu⟩
    · obtain ⟨u, rfl, hu⟩ := hd
      exact ⟨u, by rw [e]; rfl, hu⟩
    · obtain ⟨u, rfl, hu⟩ := hd
      show 3 ≤ 100000
      decide
    · obtain ⟨u, rfl, hu⟩ := hd
      exact ⟨u, rfl, hu⟩
    · obtain ⟨u, rfl, hu⟩ := hd
      exact ⟨u, by rw [e], hu⟩
    · obtain ⟨u, rfl, hu⟩ := hd
      refine ⟨_, _, rfl, ?_, u, rfl, hu⟩
      rw [e, cutD_map, show (some (3 : Int)) = some ((3 : Nat) : Int) from rfl, cut_to]
    obtain ⟨rfl, u, rfl, hu⟩ := hxy
    have o8 := s7.okk o7
    have ko7 := dp_ex s7.ex ko6
    have hall : ∀ w ∈ ws.take 3, WOK w := fun w hw => hwok w (List.mem_of_mem_take hw)
    have htwo : ∀ z ∈ [o, u, o], z.length ≤ 12 := fun z hz => by
      simp only [List.mem_cons, List.not_mem_nil, or_false] at hz
      rcases hz with rfl | rfl | rfl <;> omega
    generalize hL : [o, u, o] = two at k2 htwo
    have hlt2 : (ws.take 3).length ≤ 1000 := by
      rw [List.length_take]
      omega
    generalize ws.take 3 = one at k1 hall hlt2
    -- due
    have hlen : (pairs (one.map tupI) (two.map tupI)).length = (rowsB one two).length := by simp [pairs, rowsB]
    have hle : (rowsB one two).length ≤ 1000 := by
      simp only [rowsB, List.length_zipWith]
      omega
    refine q_asg (K := K) (π := some p) (M := M7) (Φ := (· = .bool ((rowsB one two).all id))) (ed_op (Φa := fun d => ∃ n : Nat, d = lstI (List.replicate n 1) ∧ decide (n = 0) = (rowsB one two).all id) (Φb := (· = .list [])) (EvF.ed (Φl := fun ds => ∃ n : Nat, ds = (List.replicate n (1 : Int)).map .int ∧ decide (n = 0) = (rowsB one two).all id)
      (ef_lc (Φx := (· = pairs (one.map tupI) (two.map tupI))) (T := T2 K 12 13) (ei_zipT (el_c (ed_var rfl k1) (el_c (ed_var rfl k2) el_nil))) tg2 ?_ ?_ ?_ (fun xs i acc => ∃ n : Nat, acc = (List.replicate n (1 : Int)).map .int ∧ decide (n = 0) = ((rowsB one two).take i).all id) ?_ ?_ ?_) fun ds hd => ?_) (ed_l el_nil) fun x y hx hy => ?_) o8 fun vd d M8 H8 e s8 kd => ?_
    · rintro xs d rfl hd
      obtain ⟨i, hi⟩ := List.mem_iff_getElem?.mp hd
      obtain ⟨x, y, _, _, rfl⟩ := pairs_of hi
      exact ⟨x, y, rfl⟩
    · rintro xs rfl
      omega
    · rintro d M σ' ⟨a, b, x, y, _, _, _, rfl⟩
      rfl
    · rintro xs rfl
      exact ⟨0, rfl, rfl⟩
    · rintro xs j d acc M σ' rfl ed e5 ⟨a, b, x, y, rfl, kx, ky, rfl⟩ ⟨n, rfl, hn⟩
      obtain ⟨x', y', ex, ey, e2⟩ := pairs_of ed
      injection e2 with e2
      injection e2 with e3 e2
      injection e2 with e4 _
      subst e3 e4
      rw [List.getElem?_map] at ex ey
      obtain ⟨wi, hwi, rfl⟩ := Option.map_eq_some_iff.mp ex
      obtain ⟨oi, hoi, rfl⟩ := Option.map_eq_some_iff.mp ey
      have hb : (rowsB one two)[j]? = some (inB wi oi) := by
        unfold rowsB
        rw [List.getElem?_zipWith, hwi, hoi]
      refine ⟨(· = !inB wi oi), (eb_t (ed_op' (ed_call (Φ := (· = rowsD (M1.allPlaces oi wi))) (Φl := (· = [tupI wi, tupI oi])) (el_c (ed_var rfl kx) (el_c (ed_var rfl ky) el_nil)) (fun ds e => ⟨wi, oi, e, (hall _ (List.mem_of_getElem? hwi)).1, htwo _ (List.mem_of_getElem? hoi)⟩) (fun ds d e hp => hp wi oi e)) (ed_l el_nil) (od_eqD (sm_rows _) shN))).imp fun b e => ?_, fun hc => ?_, fun hc => ?_⟩
      · rw [e, inB_rows, Bool.not_not]
        exact eqv_nilL _ _
      · refine ed_i.imp fun z e => ⟨n + 1, by rw [e, List.replicate_succ', List.map_append]; rfl, ?_⟩
        have hf : inB wi oi = false := by
          cases h : inB wi oi with
          | false => rfl
          | true => rw [h] at hc; cases hc
        rw [List.take_add_one, hb, hf]
        simp
      · have hf : inB wi oi = true := by
          cases h : inB wi oi with
          | true => rfl
          | false => rw [h] at hc; cases hc
        refine ⟨n, rfl, ?_⟩
        rw [List.take_add_one, hb, hf, hn]
        simp
    · rintro xs acc rfl ⟨n, rfl, hn⟩
      rw [hlen, List.take_length] at hn
      exact ⟨n, rfl, hn⟩
    · obtain ⟨n, rfl, h⟩ := hd
      exact ⟨n, rfl, h⟩
    · obtain ⟨n, rfl, h⟩ := hx
      subst hy
      refine fun x y H0 H1 hx hy o Q q => od_eqD (shaped_lstI _) shN x y H0 H1 hx hy o Q fun v d N H2 e => q v d N H2 ?_
      rw [e, ← h]
      unfold lstI
      rw [eqv_nilL]
      cases n <;> rfl
    subst e
    have o9 := s8.okk o8
    have ko8 := dp_ex s8.ex ko7
    have k18 := dp_ex s8.ex k1
    have k28 := dp_ex s8.ex k2
    have hc3 : (cutL o none (some 3)).length ≤ 4 := by
      rw [show (some (3 : Int)) = some ((3 : Nat) : Int) from rfl, cut_to, List.length_take]
      omega
    show tIfS _ _ _ { nx := _, rt := _, bk := _, ct := _ } _ _
    refine s_if (K := K) (π := some p) (M := M8) (Φb := (· = false)) ((eb_or' (a := false) (b := false) ((eb_t (ed_op' (ed_cb' (el_c (ed_call (Φ := (· = .bool ((rowsB one two).all id))) (Φl := (· = [.tuple (one.map tupI), .tuple (two.map tupI)])) (el_c (ed_var rfl k18) (el_c (ed_var rfl k28) el_nil)) (fun ds e => ⟨one, two, e, hlt2, fun w hw => Nat.le_trans (hall w hw).1 (by decide), fun w hw => Nat.le_trans (htwo w hw) (by decide)⟩) (fun ds d e hp => hp one two e)) el_nil) (sm_bool _).repr)
      (ed_cb' (el_c (ed_var rfl kd) el_nil) (sm_bool _).repr) od_neS)).imp fun b e => by rw [e, decide_eq_true rfl]; rfl) (fun _ => eb_not' (a := true) (eb_b (ed_go (Φl := (· = [tupI (cutL o none (some 3)), tupI o.reverse])) (el_c ((ed_slT (ed_var rfl ko8) eo_no (eo_part ed_i)).imp fun d e => by rw [e, cutD_map]; rfl) (el_c ((ed_rev (ed_var rfl ko8)).imp fun d e => by rw [e, ← List.map_reverse]; rfl) el_nil))
        (fun ds e => ⟨_, _, e, hc3, by rw [List.length_reverse]; exact ho, fun x hx => hlo x (cutL_mem hx), fun x hx => hlo x (List.mem_reverse.mp hx)⟩) (fun ds d e hp => hp))))).imp fun b e => e) o9 (fun z => by cases z) fun _ M9 H9 s9 => ?_
    · exact ⟨M9, s2.ex.trans (s3.ex.trans (s4.ex.trans (s5.ex.trans (s6.ex.trans (s7.ex.trans (s8.ex.trans s9.ex)))))), s9.okk o9, _, _, _, _, _, _, _, rfl⟩
  · rintro xs σ' M' H' rfl e1 ⟨o2, a2, a3, a4, a5, a6, a7, a8, rfl⟩
    -- far, at
    have hfar : PyData.tuple ((List.replicate (99 : Int).toNat [PyData.int 0, .int 1]).flatten ++ [.int 2]) = tupI far := by
      unfold tupI far
      rw [List.map_append, ← rep_map]
      rfl
    refine q_par (K := K) (π := some p) (M := M') (Φ2 := fun x y => x = tupI far ∧ ∃ n : Nat, y = .int (n : Int) ∧ n < 99)
      (el_cons (Φ := (· = tupI far)) (Φl := fun ds => ∃ n : Nat, ds = [.int (n : Int)] ∧ n < 99) ((ed_op' (ed_op' (ed_t (el_c ed_i (el_c ed_i el_nil))) ed_i (od_rep (by decide) (by decide) (by decide))) (ed_t (el_c ed_i el_nil)) (od_cat (by decide +kernel))).imp fun d e => e.trans hfar)
        (el_cons (Φ := fun d => ∃ n : Nat, d = .int (n : Int) ∧ n < 99) (ed_callP (Φl := (· = [.int 99])) rfl (el_c ed_i el_nil) (fun ds e => ⟨99, e, by decide, b300 (by decide)⟩) (fun ds d e hp => ?_)) el_nil fun d ds hd e => ?_) fun d ds e hd => ?_) o2 fun vf va x y M3 H3 hxy s3 kf ka => ?_
    · obtain ⟨z, rfl, z0, z1⟩ := hp 99 e
      obtain ⟨n, rfl⟩ := Int.eq_ofNat_of_zero_le z0
      exact ⟨n, rfl, by omega⟩
    · obtain ⟨n, rfl, h⟩ := hd
      exact ⟨n, by rw [e], h⟩
    · obtain ⟨n, rfl, h⟩ := hd
      exact ⟨_, _, rfl, e, n, rfl, h⟩
    obtain ⟨rfl, n, rfl, hn99⟩ := hxy
    have o3 := s3.okk o2
    -- calls of is_within and place_in by words
    have callIn : ∀ {σ : L2.St} {M : Hp} {tx ty : TE} {x y : List Int} {b : Bool}, EvD K (some p) tx σ M (· = tupI x) → EvD K (some p) ty σ M (· = tupI y) → x.length ≤ 600 → y.length ≤ 600 → inB x y = b →
        EvD K (some p) (tCall (spD K wPre inPost) [] E0 (tCons tx (tCons ty tNil))) σ M (· = .bool b) := fun hx hy h1 h2 hb => ed_call (Φl := (· = [tupI _, tupI _])) (el_c hx (el_c hy el_nil)) (fun ds e => ⟨_, _, e, h1, h2⟩) (fun ds d e hp => by rw [← hb]; exact hp _ _ e)
    have callPl : ∀ {σ : L2.St} {M : Hp} {tx ty : TE} {x y : List Int}, EvD K (some p) tx σ M (· = tupI x) → EvD K (some p) ty σ M (· = tupI y) → x.length ≤ 600 → y.length ≤ 600 →
        EvD K (some p) (tCall (spD K wPre plPost) [] E0 (tCons tx (tCons ty tNil))) σ M (· = plD x y) := fun hx hy h1 h2 => ed_call (Φl := (· = [tupI _, tupI _])) (el_c hx (el_c hy el_nil)) (fun ds e => ⟨_, _, e, h1, h2⟩) (fun ds d e hp => hp _ _ e)
    have one : ∀ {σ : L2.St} {M : Hp} {z : Int}, EvD K (some p) (tTup (tCons (tC (.int z)) tNil)) σ M (· = tupI [z]) := (ed_t (el_c ed_i el_nil)).imp fun d e => e
    have reps : ∀ {σ : L2.St} {M : Hp} {tx ty : TE} {x : List Int} {k : Nat}, EvD K (some p) tx σ M (· = tupI x) → EvD K (some p) ty σ M (· = .int (k : Int)) → k ≤ 1000 → x.length ≤ 1000 → EvD K (some p) (tOp (rRepA K) tx ty) σ M (· = tupI (List.replicate k x).flatten) := fun hx hy hk hl =>
      (ed_op' hx hy (od_rep (by omega) (by omega) (by rw [List.length_map]; exact hl))).imp fun d e => by rw [e, Int.toNat_natCast, rep_map]; rfl
    have rep1 : ∀ (k : Nat) (z : Int), (List.replicate k [z]).flatten = List.replicate k z := fun k z => by
      induction k with
      | zero => rfl
      | succ k ih => rw [List.replicate_succ, List.replicate_succ, List.flatten_cons, ih]; rfl
    have L600 : far.length ≤ 600 := by rw [far_len]; decide
    have L3 : far3.length ≤ 600 := by rw [far3_len]; decide
    have shP : ∀ (x y : List Int), SeqAt.shaped (plD x y) = true := fun x y => by
      unfold plD
      cases M1.greedy y x 0 with
      | none => rfl
      | some ps => exact shaped_tupI _
    refine q_when (K := K) (π := some p) (M := M3) (Φb := (· = false)) ((eb_or' (a := false) (b := false) (eb_not' (a := true) (eb_b (callIn (x := List.replicate n 0 ++ [2]) (y := far) ((ed_op' (reps one (ed_var rfl ka) (by omega) (by decide)) one (od_cat (by
      rw [rep1, List.length_map, List.length_replicate]
      show n + 1 ≤ 100000
      omega))).imp fun d e => ?_) (ed_var rfl kf) (by rw [List.length_append, List.length_replicate]; show n + 1 ≤ 600; omega) L600 (far_a n hn99))))
      (fun _ => eb_or' (a := false) (b := false) (eb_b (callIn (x := [2, 0]) ((ed_t (el_c ed_i (el_c ed_i el_nil))).imp fun d e => e) (ed_var rfl kf) (by decide) L600 far_b)) fun _ => eb_b (callIn (x := List.replicate 101 1) ((reps (k := 101) one ed_i (by decide) (by decide)).imp fun d e => by rw [e, rep1]) (ed_var rfl kf) (by decide) L600 far_c))).imp fun b e => e) o3 (fun z => by cases z) fun _ M4 H4 s4 => ?_
    · rw [e, rep1, ← List.map_append]
      rfl
    have o4 := s4.okk o3
    have kf4 := dp_ex s4.ex kf
    have ka4 := dp_ex s4.ex ka
    have hodd : plD (List.replicate n 1) far = .tuple ((List.range n).map fun k : Nat => .int (2 * (k : Int) + 1)) := by
      unfold plD
      rw [far_d n hn99]
      show tupN _ = _
      unfold tupN tupI
      rw [List.map_map, List.map_map]
      congr 1
    have hshO : SeqAt.shaped (.tuple ((List.range n).map fun k : Nat => .int (2 * (k : Int) + 1))) = true := by
      rw [← hodd]
      exact shP _ _
    refine q_when (K := K) (π := some p) (M := M4) (Φb := (· = false)) ((eb_or' (a := false) (b := false) ((eb_t (ed_op' (callPl (x := List.replicate n 1) ((reps one (ed_var rfl ka4) (by omega) (by decide)).imp fun d e => by rw [e, rep1]) (ed_var rfl kf4) (by rw [List.length_replicate]; omega) L600)
      (ed_cb' (el_c (EvF.ed (Φl := (· = (List.range n).map fun k : Nat => .int (2 * (k : Int) + 1))) (ef_lc (Φx := (· = upto 0 n)) (T := T1 K 14) (ei_range1 (Φl := (· = [.int (n : Int)])) (el_c (ed_var rfl ka4) el_nil) (fun ds e => ⟨n, e, by omega, by omega, by rw [Int.toNat_natCast]⟩)) tg1 (fun _ _ _ _ => trivial) ?_ ?_ (fun xs i acc => acc = (List.range i).map fun k : Nat => .int (2 * (k : Int) + 1)) ?_ ?_ ?_) fun ds e => by rw [e]) el_nil) cb_tupL)
      (od_neD (shP _ _) hshO))).imp fun b e => ?_) (fun _ => (eb_t (ed_op' (callPl (x := []) (ed_t el_nil) (ed_var rfl kf4) (by decide) L600) (ed_t el_nil) (od_neD (shP _ _) rfl))).imp fun b e => e)).imp fun b e => e) o4 (fun z => by cases z) fun _ M5 H5 s5 => ?_
    · rintro xs rfl
      rw [upto_len]
      omega
    · rintro d M σ' ⟨x, _, rfl⟩
      rfl
    · rintro xs rfl
      rfl
    · rintro xs i d acc M σ' rfl ed e5 ⟨x, kx, rfl⟩ rfl
      obtain ⟨hi, rfl⟩ := upto_get ed
      rw [dp_int kx]
      refine ⟨(· = true), eb_yes, fun _ => ?_, (fun z => by cases z)⟩
      refine (ed_op' (ed_op' ed_i (ed_var rfl (.int _)) (od_mul (.inl ⟨by decide, by decide⟩))) ed_i od_add).imp fun y e => ?_
      rw [e, List.range_succ, List.map_append, Int.zero_add]
      rfl
    · rintro xs acc rfl e
      rw [e, upto_len]
    · rw [e, hodd, SeqAt.eqv_refl _ (SeqAt.canLay_of_shaped hshO)]
      rfl
    have o5 := s5.okk o4
    have kf5 := dp_ex s5.ex kf4
    have f3 : ∀ {σ : L2.St} {M : Hp}, σ[9]? = some (some vf) → Dp K M vf (tupI far) → EvD K (some p) (tOp (rRepA K) (tVar 9) (tC (.int 3))) σ M (· = tupI far3) := fun h k => reps (k := 3) (ed_var h k) ed_i (by decide) (by rw [far_len]; decide)
    have hplf : plD [2, 2, 2] far3 = .tuple [.int 198, .int 397, .int 596] := by
      unfold plD
      rw [far_f]
      rfl
    refine q_when (K := K) (π := some p) (M := M5) (Φb := (· = false)) ((eb_or' (a := false) (b := false) (eb_b (callIn (x := [2, 2, 2, 2]) (reps (k := 4) one ed_i (by decide) (by decide)) (f3 rfl kf5) (by decide) L3 far_e))
      (fun _ => (eb_t (ed_op' (callPl (x := [2, 2, 2]) (reps (k := 3) one ed_i (by decide) (by decide)) (f3 rfl kf5) (by decide) L3) (ed_t (el_c ed_i (el_c ed_i (el_c ed_i el_nil)))) (od_neD (shP _ _) rfl))).imp fun b e => by rw [e, hplf]; rfl)).imp fun b e => e) o5 (fun z => by cases z) fun _ M6 H6 s6 => ?_
    have o6 := s6.okk o5
    have kf6 := dp_ex s6.ex kf5
    refine s_ret (K := K) (π := some p) (M := M6) (Φ := (· = .bool true)) ((ed_andV (a := true) (b := true) (callIn (ed_var rfl kf6) (ed_var rfl kf6) L600 L600 far_g) fun _ => ed_andV (a := true) (b := true) (callIn one one (by decide) (by decide) far_i.1) fun _ => ed_andV (a := true) (b := true) (ed_notV (a := false) (callIn one one (by decide) (by decide) far_i.2)) fun _ =>
      callIn (f3 rfl kf6) (f3 rfl kf6) L3 L3 far_h).imp fun d e => e) o6 fun v d N H7 e s7 kv => ?_
    subst e
    rw [dp_bl kv]
    exact q H7
end
end K01

set_option maxRecDepth 100000
set_option maxHeartbeats 4000000
namespace Gd
open PySem PySem.Spec PyProof.Rows L2

/-- the script as it is tracked at the law's entry -/
def entryH (K : PySem.W.Frag) (a : Addr) (vs : List Value) (ns : List Int) : Hp := fun b =>
  if b = a ∧ K.lookup a = none then some (.frz { cls := .type "list", data := .seq vs.toArray } (.lst (ns.map V.int))) else none
theorem entry_of {K : PySem.W.Frag} {a b : Addr} {vs : List Value} {ns : List Int} {u : HO} (h : entryH K a vs ns b = some u) :
    b = a ∧ K.lookup a = none ∧ u = .frz { cls := .type "list", data := .seq vs.toArray } (.lst (ns.map V.int)) := by
  unfold entryH at h
  split at h
  · rename_i c
    exact ⟨c.1, c.2, (Option.some.inj h).symm⟩
  · cases h
theorem entry_sq {K : PySem.W.Frag} {s : Shared} {a : Addr} {vs : List Value} {ns : List Int} (KX : K.In s.heap) (ha : s.heap.get? a = some { cls := .type "list", data := .seq vs.toArray }) (hi : IntsAre vs ns) (hl : ns.length ≤ sizeLine) :
    SqL K (entryH K a vs ns) a (ns.map V.int) := by
  cases hk : K.lookup a with
  | none =>
    exact .inl (.inr ⟨{ cls := .type "list", data := .seq vs.toArray }, if_pos ⟨rfl, hk⟩⟩)
  | some o =>
    have e := KX a o hk
    rw [ha] at e
    cases e
    refine .inr ⟨_, vs.toArray, _, hk, rfl, rfl, rfl, ?_, ?_⟩
    · rw [List.size_toArray, hi.length]
      exact hl
    · simpa using vals_ints hi

theorem law_run {P : Program} {w : World} {K : PySem.W.Frag} {mg mb : Str → Option Value} {k : Nat} {fa a : Addr} {fd : FuncData} {x : Str} {sp : Sp} {s₁ : Shared} {vs : List Value} {ns : List Int}
    (KX : K.In s₁.heap) (gl : s₁.heap.Ns mainGlobals mg) (bl : s₁.heap.Ns builtinsNs mb) (bb : ∀ x : Str, x ≠ "__name__" → mb x = bootBuiltins x) (lim : s₁.heap.NoLimit) (gn : s₁.gens = #[])
    (ha : s₁.heap.get? a = some { cls := .type "list", data := .seq vs.toArray }) (hi : IntsAre vs ns) (hl : ns.length ≤ sizeLine) (hr : Room k callerA)
    (F : ∀ base : Heap, K.In base → base.Ns mainGlobals mg → Fn P w K mg base k fa fd [x] sp) (bind : ∀ (s : Shared) (u : Value), BindsTo s fd ⟨[u], []⟩ [(x, u)])
    (hsp : ∀ H : Hp, SqL K H a (ns.map V.int) → sp [.ref a] H (fun v _ => v = .bl true) E0) :
    codeAny (model P w) callerA (.call (.ref fa) ⟨[.ref a], []⟩) (fun r s' => r = .ok (.ret (.bool true)) ∧ OldK s₁.heap s'.heap ∧ s'.os = s₁.os ∧ AllBare s'.gens) s₁ := by
  have rv := vals_ints hi
  have ok : HOk P w (entryH K a vs ns) s₁.heap := fun b u e => by
    obtain ⟨rfl, _, rfl⟩ := entry_of e
    exact ⟨ha, by rw [List.length_map]; exact hl, vs, _, rv, ha⟩
  have known : ∀ {b : Addr} {o : Obj}, s₁.heap.get? b = some o → (b ≠ a ∨ K.lookup a ≠ none) → (hidT s₁.heap (entryH K a vs ns)).get? b = some o := fun {b o} e n => by
    apply hidT_get e
    cases q : entryH K a vs ns b with
    | none => rfl
    | some u =>
      obtain ⟨h1, h2, _⟩ := entry_of q
      rcases n with n | n
      · exact absurd h1 n
      · exact absurd h2 n
  have names : ∀ {b : Addr} {m : Str → Option Value}, s₁.heap.Ns b m → (hidT s₁.heap (entryH K a vs ns)).Ns b m := fun {b m} h => by
    obtain ⟨o, es, ep, e, d, r⟩ := h
    refine ⟨o, es, ep, known e (.inl fun z => ?_), d, r⟩
    subst z
    rw [ha] at e
    cases e
    cases d
  have inK : K.In (hidT s₁.heap (entryH K a vs ns)) := fun b o e => by
    refine known (KX b o e) ?_
    by_cases h : b = a
    · subst h
      exact .inr fun z => by
        rw [z] at e
        cases e
    · exact .inl h
  have md : Mod K mg (hidT s₁.heap (entryH K a vs ns)) := by
    obtain ⟨mc, h1, h2⟩ := lim
    exact ⟨inK, names gl, ⟨mb, names bl, bb⟩, mc, names h1, h2⟩
  have env : Env0 P w K mg (hidT s₁.heap (entryH K a vs ns)) callerA [] s₁ (entryH K a vs ns) := by
    refine ⟨rfl, md, fun b o e => of_hidT e, Nat.le_of_eq (hidT_size _ _), trivial, ?_, ok, .of_eq gn⟩
    intro b hb
    cases hb
  have run := (F _ inK (names gl)).run callerA [] s₁ (entryH K a vs ns) ⟨[.ref a], []⟩ [.ref a] [.ref a] _ E0 rfl hr env (bind s₁ (.ref a)) (.cons rfl .nil) (hsp _ (entry_sq KX ha hi hl))
  apply codeAny_mono run
  intro r s' h
  match r, h with
  | .ok (.ret u), h =>
    obtain ⟨v, H', os, bare, un, ok', ru, q⟩ := h
    subst q
    cases ru
    refine ⟨rfl, OldK.of_keep fun b o e => ?_, os, bare⟩
    cases q : entryH K a vs ns b with
    | none => exact un.keep b o e q (fun z => by cases z) (fun z => by cases z)
    | some u =>
      obtain ⟨rfl, _, rfl⟩ := entry_of q
      have e2 := (ok' _ _ (un.frzs _ _ _ q)).1
      rw [ha] at e
      cases e
      exact e2
  | .ok .next, h => exact False.elim h
  | .ok .brk, h => exact False.elim h
  | .ok .cont, h => exact False.elim h
  | .error e, h => exact False.elim h

theorem walk_end {l : PySem.W.OpenLaw} {n k : Nat} {q : Program} {loose : List Str} {XP : (Str → Option Value) → Heap → Prop} {YP : World → Heap → Prop} {d : DefRec} {K : Params → PySem.W.Frag} {sp : PySem.W.Frag → Sp} {x : Str}
    (hn : l.most = some n) (hn2 : n ≤ sizeLine) (hdf : d.params.defaults = []) (hr : Room k callerA) (hY : ∀ (w : World) (h : Heap), YP w h → (K w.params).In h)
    (F : ∀ (w : World) (mg : Str → Option Value) (fa : Addr) (h : Heap), (K w.params).In h → h.Ns mainGlobals mg → mg d.name = some (.ref fa) →
      ∃ fd : FuncData, (∀ (s : Shared) (u : Value), BindsTo s fd ⟨[u], []⟩ [(x, u)]) ∧ ∀ base : Heap, (K w.params).In base → base.Ns mainGlobals mg → Fn l.prog w (K w.params) mg base k fa fd [x] (sp (K w.params)))
    (hsp : ∀ (K : PySem.W.Frag) (H : Hp) (a : Addr) (ns : List Int), ns.length ≤ n → SqL K H a (ns.map V.int) → sp K [.ref a] H (fun v _ => v = .bl true) E0) :
    PySem.W.WalkO q loose XP YP l.row.toRowW d [] (fun f vs => PySem.call f vs) := by
  refine Att.attach_call hn hdf ?_
  intro w s₀ s₁ mg mb fa o pm cd doc a vs ns G Y ho hd hcd hmg hobj hints hlen hg
  obtain ⟨fd, hb, hF⟩ := F w mg fa _ (hY w _ Y) G.T.g hmg
  exact law_run (hY w _ Y) G.T.g G.T.b G.T.builtins G.T.nolimit hg hobj hints (Nat.le_trans hlen hn2) hr hF hb fun H hS => hsp (K w.params) H a ns hlen hS

/-- a def stands in the text's module under its name -/
def Dfn (K : PySem.W.Frag) (x : Str) (st : Stmt) (f : Addr) (fd : FuncData) : Prop := PySem.W.nsIn K mainGlobals x = some (some (.ref f)) ∧ Fun K x x st f fd
theorem dfn_mk {K : PySem.W.Frag} {x : Str} {st : Stmt} {f : Addr} {oc : Value} {od an : Option Addr} {osl : Array (Option Value)} {kV doc pm cdv ct : Value} (a : PySem.W.nsIn K mainGlobals x = some (some (.ref f)))
    (l : K.lookup f = some ⟨oc, od, .func (PySem.W.fnOf x x (defArgs st) (defBody st) (defScope st) .none kV doc pm an cdv ct), osl⟩) (c : PySem.W.codeIn K cdv x = true) (k : PySem.W.keepIn K (.ref f) = true) :
    Dfn K x st f (PySem.W.fnOf x x (defArgs st) (defBody st) (defScope st) .none kV doc pm an cdv ct) := ⟨a, fun_mk l c k⟩
end Gd

set_option maxRecDepth 100000
set_option maxHeartbeats 4000000
namespace K01
open PySem PySem.Spec PyProof.Rows L2 Gd Dt Dl
theorem all_mk {l : PySem.W.OpenLaw} {w : World} {K : PySem.W.Frag} {h : Heap} {mg : Str → Option Value} {fa f1 f2 f3 f5 f6 f7 f8 f9 f10 f11 : Addr} {e1 e2 e3 e5 e6 e7 e8 e9 e10 : FuncData} {kV doc pm cdv ct : Value} {an : Option Addr}
    (X : K.In h) (G : h.Ns mainGlobals mg) (hfa : mg "law" = some (.ref fa)) (d1 : Dfn K "place_in" sPlace f1 e1) (d2 : Dfn K "is_within" sIn f2 e2) (d3 : Dfn K "are_within" sAre f3 e3) (d5 : Dfn K "_law_pen" sPen f5 e5) (d6 : Dfn K "_law_fresh" sFresh f6 e6) (d7 : Dfn K "_law_draw" sDraw f7 e7)
    (d8 : Dfn K "_law_drawn_word" sDword f8 e8) (d9 : Dfn K "_law_places" sPlaces f9 e9) (d10 : Dfn K "_law_right" sRight f10 e10) (d11 : Dfn K "law" sLaw f11 (PySem.W.fnOf "law" "law" (defArgs sLaw) (defBody sLaw) (defScope sLaw) .none kV doc pm an cdv ct))
    (z1 : PySem.W.nsIn K mainGlobals "len" = some none) (z2 : PySem.W.nsIn K mainGlobals "int" = some none) (z3 : PySem.W.nsIn K mainGlobals "list" = some none) (z4 : PySem.W.nsIn K mainGlobals "tuple" = some none) (z5 : PySem.W.nsIn K mainGlobals "repr" = some none)
    (z6 : PySem.W.nsIn K mainGlobals "range" = some none) (z7 : PySem.W.nsIn K mainGlobals "zip" = some none) (z8 : PySem.W.nsIn K mainGlobals "all" = some none) :
    ∃ fd : FuncData, (∀ (s : Shared) (v : Value), BindsTo s fd ⟨[v], []⟩ [("script", v)]) ∧ ∀ base : Heap, K.In base → base.Ns mainGlobals mg → Fn l.prog w K mg base 4 fa fd ["script"] (spLaw K) := by
  have e := hfa.symm.trans (PySem.W.mg_of X G d11.1)
  cases e
  refine ⟨PySem.W.fnOf "law" "law" (defArgs sLaw) (defBody sLaw) (defScope sLaw) .none kV doc pm an cdv ct, fun s v => .of_eq rfl, fun base _ _ => ?_⟩
  have no : ∀ {x : Str}, PySem.W.nsIn K mainGlobals x = some none → mg x = none := fun z => PySem.W.mg_none_of X G z
  have B : Blt mg := ⟨no z1, no z2, no z3, no z4, no z5, no z6, no z7, no z8⟩
  have at_ : ∀ {x : Str} {f : Addr}, PySem.W.nsIn K mainGlobals x = some (some (.ref f)) → mg x = some (.ref f) := fun a => PySem.W.mg_of X G a
  have c1 := c_place (P := l.prog) (w := w) (base := base) d1.2 (at_ d1.1) B
  have c2 := c_in d2.2 (at_ d2.1) c1
  have c3 := c_are d3.2 (at_ d3.1) B c2
  have c5 := c_pen (P := l.prog) (w := w) (base := base) d5.2 (at_ d5.1) B
  have c6 := c_fresh (P := l.prog) (w := w) (base := base) d6.2 (at_ d6.1) B
  have c7 := c_draw d7.2 (at_ d7.1) B c6
  have c8 := c_dword d8.2 (at_ d8.1) B c7
  have c9 := c_places (P := l.prog) (w := w) (base := base) d9.2 (at_ d9.1) B
  have c10 := c_right d10.2 (at_ d10.1) B c9 c2 c1
  exact ok_law d11.2 B c5 c7 c8 c9 c10 c2 c1 c3
end K01
open PySem PySem.W PyProof.Rows
set_option maxRecDepth 100000 in
set_option maxHeartbeats 0 in
theorem PySem.Challenge.cw_losinglanes_k01_words_within_others_holds : PySem.Challenge.rw_losinglanes_k01_words_within_others.Holds := by
  w_on; o_law; k_head; (case hw => w_witness2)
  k_fill
  refine Gd.walk_end (l := PySem.Challenge.rw_losinglanes_k01_words_within_others) (n := 63) (k := 4) (x := "script") (sp := K01.spLaw) rfl (by decide) rfl ⟨rfl, by decide, by decide⟩ (fun w h Y => PySem.W.kIn_of Y) ?F (fun K H a ns hl hS => ⟨a, ns, rfl, hS, hl, fun _ => rfl⟩)
  case F =>
    intro w mg fa h KX G hmg
    refine' K01.all_mk KX G hmg ?d1 ?d2 ?d3 ?d5 ?d6 ?d7 ?d8 ?d9 ?d10 ?d11 ?z1 ?z2 ?z3 ?z4 ?z5 ?z6 ?z7 ?z8
    (case d1 => refine' Gd.dfn_mk ?a ?l ?c ?k; (case a => k_is); (case l => k_is); (case c => k_is); (case k => k_is))
    (case d2 => refine' Gd.dfn_mk ?a ?l ?c ?k; (case a => k_is); (case l => k_is); (case c => k_is); (case k => k_is))
    (case d3 => refine' Gd.dfn_mk ?a ?l ?c ?k; (case a => k_is); (case l => k_is); (case c => k_is); (case k => k_is))
    (case d5 => refine' Gd.dfn_mk ?a ?l ?c ?k; (case a => k_is); (case l => k_is); (case c => k_is); (case k => k_is))
    (case d6 => refine' Gd.dfn_mk ?a ?l ?c ?k; (case a => k_is); (case l => k_is); (case c => k_is); (case k => k_is))
    (case d7 => refine' Gd.dfn_mk ?a ?l ?c ?k; (case a => k_is); (case l => k_is); (case c => k_is); (case k => k_is))
    (case d8 => refine' Gd.dfn_mk ?a ?l ?c ?k; (case a => k_is); (case l => k_is); (case c => k_is); (case k => k_is))
    (case d9 => refine' Gd.dfn_mk ?a ?l ?c ?k; (case a => k_is); (case l => k_is); (case c => k_is); (case k => k_is))
    (case d10 => refine' Gd.dfn_mk ?a ?l ?c ?k; (case a => k_is); (case l => k_is); (case c => k_is); (case k => k_is))
    (case d11 => refine' Gd.dfn_mk ?a ?l ?c ?k; (case a => k_is); (case l => k_is); (case c => k_is); (case k => k_is))
    (case z1 => k_is)
    (case z2 => k_is)
    (case z3 => k_is)
    (case z4 => k_is)
    (case z5 => k_is)
    (case z6 => k_is)
    (case z7 => k_is)
    (case z8 => k_is)

