import PyProof.Rows.All
import Wide.All
import OpenK.AllK
import Wide.FinOn
import PyProof.ReprRoads
import HandS.Base
import HandS.Call
import HandS.List
import HandS.Comp
import HandS.Ends
import HandS.Words
import HandS.Wide
import HandS.WideBits
import HandS.IsInst
import HandS.Defaults
import HandS.Flow
import HandS.Walk
import HandS.Codes
import HandS.Conv
import HandS.ForMost
import HandS.TupAny
import HandS.TupLe
import HandS.Dict
import KE.KStateDown
import Lean
import HandS.Head0
import HandS.Head1
import HandS.Head2
import HandS.HeadEnd
import HandS.HeadHook1
import HandS.HeadHook2
import PyProof.LongRange
import HandS.Text
import HandS.StrMore
import PyProof.SumAnyB
import PySem.Challenge.RW_howeverwide_k42_whole_widths_counted
set_option Elab.async false
set_option linter.all false
set_option maxRecDepth 100000
set_option maxHeartbeats 4000000
/-! A layer of ours over HandS: defs whose runs know that no repr stands around them (so that repr of lists may be shown), calls by keywords alone, repr of data, powers. -/
namespace Hw
open PySem PySem.Spec PyProof.Rows L2

/-- no repr is under way -/
abbrev Gd (A : Around) : Prop := A.guards = some []

section
variable (P : Program) (w : World) (K : PySem.W.Frag) (mg : Str → Option Value) (base : Heap) (CX : CXT)
/-- a def's promise where no repr is under way -/
structure FnG (k : Nat) (f : Addr) (fd : FuncData) (ps : List Str) (sp : Sp) : Prop where
  arity : ∀ vs H Q E, sp vs H Q E → vs.length = ps.length
  go : ∀ (A : Around) (outer : List Env) (s : Shared) (H : Hp) (args : Args) (us : List Value) (vs : List V) (Q : VK) (E : XK),
    Gd A → Room k A → Env0 P w K mg base A outer s H → BindsTo s fd args (ps.zip us) → Vals vs us → sp vs H Q E → codeAny (model P w) A (.call (.ref f) args) (CR CX outer P w H s Q E) s
end
section
variable {P : Program} {w : World} {K : PySem.W.Frag} {mg : Str → Option Value} {base : Heap} {CX : CXT}
theorem FnG.up {j k : Nat} {f : Addr} {fd : FuncData} {ps : List Str} {sp : Sp} (F : FnG P w K mg base CX j f fd ps sp) (h : j ≤ k) : FnG P w K mg base CX k f fd ps sp :=
  ⟨F.arity, fun A outer s H args us vs Q E g r => F.go A outer s H args us vs Q E g (r.mono h)⟩
theorem FnG.weak {k : Nat} {f : Addr} {fd : FuncData} {ps : List Str} {sp sp' : Sp} (F : FnG P w K mg base CX k f fd ps sp) (h : ∀ vs H Q E, sp' vs H Q E → sp vs H Q E) : FnG P w K mg base CX k f fd ps sp' :=
  ⟨fun vs H Q E q => F.arity vs H Q E (h _ _ _ _ q), fun A outer s H args us vs Q E g r e b v q => F.go A outer s H args us vs Q E g r e b v (h _ _ _ _ q)⟩
theorem FnG.ofOk {k : Nat} {f : Addr} {fd : FuncData} {ps : List Str} {sp : Sp} (F : FnOk P w K mg base CX k f fd ps sp) : FnG P w K mg base CX k f fd ps sp :=
  ⟨F.len, fun A outer s H args us vs Q E _ => F.run A outer s H args us vs Q E⟩

/-- a def of the text without defaults -/
abbrev DefAt (K : PySem.W.Frag) (x : Str) (st : Stmt) (f : Addr) (fd : FuncData) : Prop := FunD K x x (defArgs st) (defBody st) (defScope st) [] [] f fd

/-- the rule of a def's body, where no repr is under way -/
theorem bodyG {x qual : Str} {params : Arguments} {body : List Stmt} {scope : Scope} {dvs : List V} {kws : List (Str × V)} {f : Addr} {fd : FuncData} {N ps : List Str} {k : Nat} {sp : Sp}
    (F : FunD K x qual params body scope dvs kws f fd) (S : FnScope N ps scope) (ar : ∀ vs H Q E, sp vs H Q E → vs.length = ps.length)
    (hb : ∀ (cdv : Value) (A : Around) (outer : List Env) (s : Shared) (H : Hp) (vs : List V) (Q : VK) (E : XK), Gd (A.deeper (envOfC qual scope s.heap.objs.size f cdv)) → Room k (A.deeper (envOfC qual scope s.heap.objs.size f cdv)) → sp vs H Q E →
      ∃ t, PSs (cxOf CX P w K mg base N qual scope f cdv A outer s H E) body t ∧ t { nx := fun _ H' => Q .non H', rt := Q } (start N vs) H) : FnG P w K mg base CX (k + 1) f fd ps sp := by
  refine ⟨ar, ?_⟩
  intro A outer s H args us vs Q E gd room env bind rel want
  obtain ⟨oc, od, dV, kV, doc, pm, an, cdv, ct, osl, rfl, look, codeIs, -, -⟩ := F.ex
  have inK : K.In s.heap := env.mod.kin.keeps fun b o q => (env.bs b o q).1
  have noLim : s.heap.NoLimit := env.mod.nolimit.keeps fun b o q => (env.bs b o q).1
  have kinds : ∀ y ∈ ps.zip us, scope.names.lookup y.1 = some .local ∨ (scope.names.lookup y.1 = some .cell ∧ ((cellsFrom (s.heap.objs.size + 1) scope.names []).lookup y.1).isSome = true) := by
    rintro ⟨n, v⟩ hy
    cases S.par n (List.of_mem_zip hy).1 with
    | inl q => exact Or.inl q
    | inr q => exact Or.inr ⟨q, PySem.W.cellsFrom_some _ _ _ (Or.inl q)⟩
  refine codeAny_call_function room.depth (inK _ _ look) rfl S.co S.gen rfl (PySem.W.codeRec_of inK codeIs) (bind _ _ _ _ ?_)
  refine wpAny_newFunctionEnv_cells S.kind kinds ?_
  rintro env' rfl s1 x1
  refine ⟨noLim.keeps x1.toInCall.keep, codeAny_func ?_⟩
  obtain ⟨t, run, done⟩ := hb cdv A outer s H vs Q E gd (room.deeper _) want
  have I := inv_start (CX := CX) (E := E) S room.hd env (ar _ _ _ _ want) rel x1
  refine wpAny_mono (run.run [] s1 (start N vs) H _ I done) ?_ (fun _ _ q => q)
  intro fl s' after
  cases fl with
  | ret u =>
    obtain ⟨v, σ', H', J, rv, q⟩ := after
    exact ⟨v, H', J.os, J.bare, J.base, J.hok, rv, q⟩
  | next =>
    obtain ⟨σ', H', J, q⟩ := after
    exact ⟨V.non, H', J.os, J.bare, J.base, J.hok, rfl, q⟩
  | brk => exact (after.choose_spec.choose_spec.2 : False).elim
  | cont => exact (after.choose_spec.choose_spec.2 : False).elim
/-- the same for a def that lets nothing out -/
theorem bodyG0 {x : Str} {st : Stmt} {f : Addr} {fd : FuncData} {N ps : List Str} {k : Nat} {sp : Sp}
    (F : DefAt K x st f fd) (S : FnScope N ps (defScope st)) (ar : ∀ vs H Q E, sp vs H Q E → vs.length = ps.length)
    (hb : ∀ (cdv : Value) (A : Around) (outer : List Env) (s : Shared) (H : Hp) (vs : List V) (Q : VK) (E : XK), Gd (A.deeper (envOfC x (defScope st) s.heap.objs.size f cdv)) → Room k (A.deeper (envOfC x (defScope st) s.heap.objs.size f cdv)) → sp vs H Q E →
      ∃ t, PSs (cxOf CX0 P w K mg base N x (defScope st) f cdv A outer s H E).nox (defBody st) t ∧ t { nx := fun _ H' => Q .non H', rt := Q } (start N vs) H) : FnG P w K mg base CX0 (k + 1) f fd ps sp :=
  bodyG F S ar fun cdv A outer s H vs Q E gd room want => by
    obtain ⟨t, a, b⟩ := hb cdv A outer s H vs Q E gd room want
    exact ⟨t, a.nox, b⟩
end

section
variable {X : Cx} {CX : CXT} {k : Nat} {f : Addr} {fd : FuncData} {ps ks : List Str} {sp : Sp} {dvs : List V} {ds : List Value} {E : XK} {x : Str} {p pos : Pos} {e : Expr} {es : List Expr} {kws : List Keyword} {t tk : TA}
theorem runG {pins : List (Addr × Obj)} {σ : L2.St} {H : Hp} {s : Shared} {Q : VK} {us0 : List Value} {kw : List (Str × Value)} {us : List Value} {vs : List V} (F : FnG X.prog X.w X.K X.mg X.base CX k f fd ps sp) (gd : Gd X.A) (hr : Room k X.A) (hx : Passes CX X E)
    (I : Inv X pins σ H s) (hb : BindsTo s fd ⟨us0, kw⟩ (ps.zip us)) (r : Vals vs us) (h : sp vs H Q E) : wpAny (model X.prog X.w) X.A (call (.ref f) us0 kw) (EP X pins σ Q) X.xe s := by
  refine wpAny_call (codeAny_mono (F.go X.A X.stack s H ⟨us0, kw⟩ us vs Q E gd hr I.env0 hb r h) ?_)
  intro r s' q
  match r, q with
  | .error e, q => exact hx pins σ H s e s' I q
  | .ok (.ret u), q => exact I.after q
  | .ok .next, q => exact (show False from q).elim
  | .ok .brk, q => exact (show False from q).elim
  | .ok .cont, q => exact (show False from q).elim
/-- f(e, ..) -/
theorem pe_g (F : FnG X.prog X.w X.K X.mg X.base CX k f fd ps sp) (gd : Gd X.A) (hr : Room k X.A) (hg : Gl X x) (hm : X.mg x = some (.ref f)) (hk : PySem.W.keepIn X.K (.ref f) = true) (hb : Binds X.K fd ps ds) (hd : Vals dvs ds) (hx : Passes CX X E)
    (ha : PA X (e :: es) t) (hdb : (x == ("__debug__" : Str)) = false := by decide) (he : starEach (e :: es) X.env = (false, eval e X.env) :: starEach es X.env := by rfl) (hpl : (backTo pos (starEach es X.env)).any (·.1) = false := by rfl) :
    PE X (.Call (.Name x p) (e :: es) [] pos) (tCall sp dvs E t) := by
  constructor
  intro pins s σ H Q I h
  apply wpAny_Call_Name_kw
  refine ld_glob I hg hm (PySem.W.callWith_K (h₀ := X.base) I.ok.mod.kin hk (thn (ha.run pos pins s σ H _ I h) ?_) he hpl) hdb
  rintro us s1 ⟨vs, H1, I1, r, q⟩
  have r2 : Vals (vs ++ dvs) (us ++ ds) := r.append hd
  exact ⟨I1.kIn, runG F gd hr hx I1 (hb s1 us I1.kIn (r2.length.symm.trans (F.arity _ _ _ _ q))) r2 q⟩
/-- f() -/
theorem pe_g0 (F : FnG X.prog X.w X.K X.mg X.base CX k f fd ps sp) (gd : Gd X.A) (hr : Room k X.A) (hg : Gl X x) (hm : X.mg x = some (.ref f)) (hk : PySem.W.keepIn X.K (.ref f) = true) (hb : Binds X.K fd ps ds) (hd : Vals dvs ds) (hx : Passes CX X E)
    (hdb : (x == ("__debug__" : Str)) = false := by decide) : PE X (.Call (.Name x p) [] [] pos) (tCall sp dvs E tNil) := by
  constructor
  intro pins s σ H Q I h
  apply wpAny_Call_Name_kw
  refine ld_glob I hg hm (PySem.W.callWith_K0 I.kIn hk ?_) hdb
  have r2 : Vals ([] ++ dvs) ([] ++ ds) := Vals.append .nil hd
  exact runG (us0 := []) F gd hr hx I (hb s [] I.kIn (r2.length.symm.trans (F.arity _ _ _ _ h))) r2 h
/-- how a call by keywords alone binds: the keywords ks, brought into the parameters' order by g (by gV the values) -/
structure KwB (fd : FuncData) (ps ks : List Str) (g : List Value → List Value) (gV : List V → List V) : Prop where
  to : ∀ (s : Shared) (ws : List Value), ws.length = ks.length → BindsTo s fd ⟨[], ks.zip ws⟩ (ps.zip (g ws))
  rel : ∀ {zs : List V} {ws : List Value}, zs.length = ks.length → Vals zs ws → Vals (gV zs) (g ws)
def tCallW (sp : Sp) (n : Nat) (gV : List V → List V) (E : XK) (tk : TA) : TE := fun σ H Q => tk σ H fun zs H1 => zs.length = n ∧ sp (gV zs) H1 Q E
/-- f(k = v, ..) -/
theorem pe_gk {g : List Value → List Value} {gV : List V → List V} (F : FnG X.prog X.w X.K X.mg X.base CX k f fd ps sp) (gd : Gd X.A) (hr : Room k X.A) (hg : Gl X x) (hm : X.mg x = some (.ref f)) (hk : PySem.W.keepIn X.K (.ref f) = true) (hb : KwB fd ps ks g gV) (hx : Passes CX X E)
    (hkw : PK X kws tk) (hall : (backToKw pos (keywordEach kws X.env)).all (·.1.isSome) = true := by rfl) (hks : (backToKw pos (keywordEach kws X.env)).filterMap (·.1) = ks := by rfl) (hdb : (x == ("__debug__" : Str)) = false := by decide)
    (hpl : ((backTo pos (starEach [] X.env)).any (·.1) || (backToKw pos (keywordEach kws X.env)).any (·.1.isNone)) = false := by rfl) :
    PE X (.Call (.Name x p) [] kws pos) (tCallW sp ks.length gV E tk) := by
  constructor
  intro pins s σ H Q I h
  apply wpAny_Call_Name_kw
  refine ld_glob I hg hm (PySem.W.callWith_KW0 (h₀ := X.base) I.ok.mod.kin hk hall (thn (hkw.run pos pins s σ H _ I h) ?_) hpl) hdb
  rintro ws s1 ⟨zs, H1, I1, rz, l, q⟩
  rw [hks]
  exact ⟨I1.kIn, runG (us0 := []) F gd hr hx I1 (hb.to s1 ws (rz.length.symm.trans l)) (hb.rel l rz) q⟩
end

/-! ### operators -/
def CPowW (i j : Int) : Prop := 0 ≤ j ∧ (Builtin.Int.intBits i : Int) * j ≤ 2 ^ 27
theorem powW_ok {i : Int} {n j : Nat} (h : i.natAbs < 2 ^ n) (hj : n * j ≤ 134217728) : CPowW i (j : Int) := by
  have b := PyProof.Rows.intBits_le h
  refine ⟨Int.natCast_nonneg _, ?_⟩
  have e : (2 : Int) ^ 27 = 134217728 := by decide
  rw [e, ← Int.natCast_mul]
  have c : Builtin.Int.intBits i * j ≤ n * j := Nat.mul_le_mul_right j b
  omega
section
variable {X : Cx}
theorem op_powW : OpR X (binaryOp .Pow) (rI CPowW fun i j => .int (i ^ j.toNat)) := opI fun _ _ _ _ _ _ _ hc q => pow_int hc.1 hc.2 q
end
/-! ### data that may be shown and compared -/
mutual
/-- data without dicts, of numbers of at most 38 figures and plain texts -/
def okD : PyData → Bool
  | .none | .bool _ => true
  | .int i => decide (i.natAbs < 10 ^ 38)
  | .str x => PyData.strOk x && x.cps.toList.all fun c => decide (c < 16 ^ 8)
  | .list xs | .tuple xs => okDs xs
  | .dict _ => false
def okDs : List PyData → Bool
  | [] => true
  | x :: xs => okD x && okDs xs
end
theorem int38 {i : Int} (h : i.natAbs < 10 ^ 38) : i.natAbs.log2 < 1920 :=
  Nat.lt_of_lt_of_le (PySem.Flt.log2_lt_of (k := 127) (by decide) (Nat.lt_of_lt_of_le h (by decide +kernel))) (by decide)
theorem short38 {i : Int} (h : i.natAbs < 10 ^ 38) : (PyData.shown (.int i)).length ≤ 40 := by
  have e := int_text_length_le10 (k := 38) (by decide) h
  show (Str.ofString (toString i)).length ≤ 40
  rw [PySem.ofString_length]
  omega
mutual
theorem okD_all : ∀ d : PyData, okD d = true → d.canLay0 = true ∧ d.showable = true ∧ d.hasDict = false ∧ d.leavesShort 40 = true
  | .none, _ => ⟨by simp only [PyData.canLay0], by simp only [PyData.showable], by simp only [PyData.hasDict], by simp only [PyData.leavesShort]⟩
  | .bool _, _ => ⟨by simp only [PyData.canLay0], by simp only [PyData.showable], by simp only [PyData.hasDict], by simp only [PyData.leavesShort]⟩
  | .int i, h => by
    have h' : i.natAbs < 10 ^ 38 := by simpa only [okD, decide_eq_true_eq] using h
    exact ⟨by simp only [PyData.canLay0], by simp only [PyData.showable, decide_eq_true_eq]; exact int38 h', by simp only [PyData.hasDict], by simp only [PyData.leavesShort, decide_eq_true_eq]; exact short38 h'⟩
  | .str x, h => by
    have h' : PyData.strOk x = true ∧ (x.cps.toList.all fun c => decide (c < 16 ^ 8)) = true := by simpa only [okD, Bool.and_eq_true] using h
    exact ⟨by simp only [PyData.canLay0]; exact h'.1, by simp only [PyData.showable], by simp only [PyData.hasDict], by simp only [PyData.leavesShort]; exact h'.2⟩
  | .list xs, h => by
    obtain ⟨a, b, c, d⟩ := okDs_all xs (by simpa only [okD] using h)
    exact ⟨by simp only [PyData.canLay0]; exact a, by simp only [PyData.showable]; exact b, by simp only [PyData.hasDict]; exact c, by simp only [PyData.leavesShort]; exact d⟩
  | .tuple xs, h => by
    obtain ⟨a, b, c, d⟩ := okDs_all xs (by simpa only [okD] using h)
    exact ⟨by simp only [PyData.canLay0]; exact a, by simp only [PyData.showable]; exact b, by simp only [PyData.hasDict]; exact c, by simp only [PyData.leavesShort]; exact d⟩
  | .dict _, h => by simp only [okD] at h; cases h
theorem okDs_all : ∀ ds : List PyData, okDs ds = true → PyData.canLayAll0 ds = true ∧ PyData.showableAll ds = true ∧ PyData.hasDictAll ds = false ∧ PyData.leavesShortAll 40 ds = true
  | [], _ => ⟨by simp only [PyData.canLayAll0], by simp only [PyData.showableAll], by simp only [PyData.hasDictAll], by simp only [PyData.leavesShortAll]⟩
  | x :: xs, h => by
    have h' : okD x = true ∧ okDs xs = true := by simpa only [okDs, Bool.and_eq_true] using h
    obtain ⟨a, b, c, d⟩ := okD_all x h'.1
    obtain ⟨a2, b2, c2, d2⟩ := okDs_all xs h'.2
    exact ⟨by simp only [PyData.canLayAll0, a, a2, Bool.and_self], by simp only [PyData.showableAll, b, b2, Bool.and_self], by simp only [PyData.hasDictAll, c, c2, Bool.or_self], by simp only [PyData.leavesShortAll, d, d2, Bool.and_self]⟩
end
structure Nice (d : PyData) : Prop where
  ok : okD d = true
  deep : d.depth ≤ 60
  small : d.bulk ≤ 262144
theorem Nice.shaped {d : PyData} (n : Nice d) : SeqAt.shaped d = true := by
  show (d.canLay0 && decide (d.depth ≤ 64)) = true
  rw [(okD_all d n.ok).1, decide_eq_true (show d.depth ≤ 64 by have := n.deep; omega)]
  rfl
theorem Nice.fits {d : PyData} (n : Nice d) : d.shown.length ≤ sizeLine := by
  have h := PyData.shown_le_bulk 40 (by decide) d (okD_all d n.ok).2.2.2
  have k := n.small
  rw [sizeLine_eq]
  omega
theorem Nice.refl {d : PyData} (n : Nice d) : PyData.eqv d d = true := SeqAt.eqv_refl d (okD_all d n.ok).1
theorem Nice.int {i : Int} (h : i.natAbs < 10 ^ 38) : Nice (.int i) := ⟨by simp only [okD, decide_eq_true_eq]; exact h, by simp only [PyData.depth]; omega, by simp only [PyData.bulk]; omega⟩
theorem okDs_map {α : Type} (f : α → PyData) : ∀ l : List α, (∀ x ∈ l, okD (f x) = true) → okDs (l.map f) = true
  | [], _ => by simp only [List.map_nil, okDs]
  | x :: r, h => by
    simp only [List.map_cons, okDs, Bool.and_eq_true]
    exact ⟨h x (List.mem_cons_self ..), okDs_map f r fun y hy => h y (List.mem_cons_of_mem _ hy)⟩
theorem depthAll_le {n : Nat} : ∀ l : List PyData, (∀ x ∈ l, x.depth ≤ n) → PyData.depthAll l ≤ n
  | [], _ => by simp only [PyData.depthAll]; omega
  | x :: r, h => by
    have h1 := h x (List.mem_cons_self ..)
    have h2 := depthAll_le r fun y hy => h y (List.mem_cons_of_mem _ hy)
    simp only [PyData.depthAll]
    omega
theorem bulkAll_le {n : Nat} : ∀ l : List PyData, (∀ x ∈ l, x.bulk ≤ n) → PyData.bulkAll l ≤ l.length * (n + 1)
  | [], _ => by simp only [PyData.bulkAll]; omega
  | x :: r, h => by
    have h1 := h x (List.mem_cons_self ..)
    have h2 := bulkAll_le r fun y hy => h y (List.mem_cons_of_mem _ hy)
    simp only [PyData.bulkAll, List.length_cons]
    rw [Nat.succ_mul]
    omega
theorem Nice.listInt {l : List Int} (h : ∀ x ∈ l, x.natAbs < 10 ^ 38) (hl : l.length ≤ 100000) : Nice (.list (l.map .int)) := by
  refine ⟨?_, ?_, ?_⟩
  · simp only [okD]
    exact okDs_map _ l fun x hx => (Nice.int (h x hx)).ok
  · have := depthAll_le (n := 0) (l.map PyData.int) fun x hx => by
      obtain ⟨i, _, rfl⟩ := List.mem_map.mp hx
      simp only [PyData.depth]; omega
    simp only [PyData.depth]; omega
  · have := bulkAll_le (n := 0) (l.map PyData.int) fun x hx => by
      obtain ⟨i, _, rfl⟩ := List.mem_map.mp hx
      simp only [PyData.bulk]; omega
    simp only [PyData.bulk]
    rw [List.length_map] at this
    omega
theorem dps_int {K : PySem.W.Frag} {H : Hp} : ∀ l : List Int, DpAll K H (l.map V.int) (l.map PyData.int)
  | [] => .nil
  | x :: r => .cons (.int x) (dps_int r)
theorem dp_int {K : PySem.W.Frag} {H : Hp} {a : Addr} {l : List Int} (h : SqL K H a (l.map V.int)) : Dp K H (.ref a) (.list (l.map PyData.int)) := .lst h (dps_int l)
section
variable {X : Cx}
/-- repr of data: its text -/
def rRepr (K : PySem.W.Frag) : List V → Hp → VK → Prop := fun xs H Q => ∃ (x : V) (d : PyData), xs = [x] ∧ Dp K H x d ∧ Nice d ∧ Q (.str d.shown) H
theorem call_reprD (gd : Gd X.A) (hu : X.A.units + 64 < cLine) : CallR X (.builtin "repr") (rRepr X.K) := by
  intro pins s σ H xs us Q I r h
  obtain ⟨x, d, rfl, dp, nice, q⟩ := h
  obtain ⟨_, sh, nd, _⟩ := okD_all d nice.ok
  have sz := nice.fits
  have dep := nice.deep
  obtain ⟨u, rfl, ru⟩ := vals1 r
  obtain ⟨as, rd⟩ := Dp.reads I d x u dp ru
  have hsm : d.hasDict = true → sysModules ∉ as := fun e => by rw [nd] at e; cases e
  cases dp with
  | non => cases (show u = Value.none from ru); exact PySem.P.repr_of_none ⟨.str _, H, I.tok _, ⟨_, rfl⟩, q⟩
  | bl b => cases (show u = Value.bool b from ru); exact PySem.P.repr_of_bool ⟨.str _, H, I.tok _, ⟨_, rfl⟩, by simpa only [PyData.shown] using q⟩
  | int i => obtain ⟨t, rfl⟩ := ru; exact PySem.P.repr_of_int (by simpa only [PyData.showable, decide_eq_true_eq] using sh) ⟨.str _, H, I.tok _, ⟨_, rfl⟩, by simpa only [PyData.shown] using q⟩
  | str z => obtain ⟨t, rfl⟩ := ru; exact PySem.P.repr_of_str ⟨.str _, H, I.tok _, ⟨_, rfl⟩, by simpa only [PyData.shown] using q⟩ (by simpa only [PyData.shown] using sz)
  | @lst a xs ds e1 e2 =>
    cases (show u = Value.ref a from ru)
    exact repr_of_reads' rd sh hsm gd (by omega) (fun _ _ e => e) (fun h' u tk hk => ⟨.str _, H, I.kept hk, ⟨_, rfl⟩, q⟩) sz
  | @tup a xs ds e1 e2 =>
    cases (show u = Value.ref a from ru)
    exact repr_of_reads' rd sh hsm gd (by omega) (fun _ _ e => e) (fun h' u tk hk => ⟨.str _, H, I.kept hk, ⟨_, rfl⟩, q⟩) sz
end
/-! ### heaps -/
/-- all but what stands at a is as it was -/
def SameX (a : Addr) (H H' : Hp) : Prop := ∀ b o, b ≠ a → H b = some o → H' b = some o
theorem SameX.refl (a : Addr) (H : Hp) : SameX a H H := fun _ _ _ h => h
theorem SameX.of {a : Addr} {H H' : Hp} (e : Same H H') : SameX a H H' := fun b o _ h => e b o h
theorem SameX.trans {a : Addr} {H H1 H2 : Hp} (e : SameX a H H1) (f : SameX a H1 H2) : SameX a H H2 := fun b o n h => f b o n (e b o n h)
theorem SameX.upd {a : Addr} {H : Hp} {o : HO} : SameX a H (upd H a o) := fun b x n h => by rw [upd_ne n]; exact h
/-- what was there before a was made -/
theorem SameX.same {a : Addr} {H0 H H' : Hp} (e : SameX a H H') (s : Same H0 H) (n : H0 a = none) : Same H0 H' := fun b o h => e b o (ne_of_none h n) (s b o h)
theorem same_new' {H : Hp} {p : Addr} {o : HO} (h : H p = none) : Same H (upd H p o) := fun b x e => by
  rw [upd_ne (ne_of_none e h)]
  exact e
/-! ### tests -/
/-- a comprehension without a test keeps each item -/
theorem yes_if {σ : L2.St} {H : Hp} {A B : Hp → Prop} (h : A H) : tYes σ H fun b H3 => if b = true then A H3 else B H3 := by
  show if true = true then A H else B H
  exact iteT h

/-! ### the law's own call -/
section
variable {P : Program} {w : World} {K : PySem.W.Frag} {mg mb : Str → Option Value} {CX : CXT} {k : Nat} {fa a : Addr} {fd : FuncData} {x : Str} {sp : Sp} {st : Shared} {its : List Value} {ns : List Int}
/-- the call over an abstract heap that tracks nothing but (perhaps) the script -/
theorem lawG_at {H : Hp} (inK : K.In st.heap) (globals : st.heap.Ns mainGlobals mg) (blt : st.heap.Ns builtinsNs mb) (bltIs : ∀ x : Str, x ≠ "__name__" → mb x = bootBuiltins x) (noLim : st.heap.NoLimit) (noGen : st.gens = #[])
    (lst : st.heap.get? a = some { cls := .type "list", data := .seq its.toArray }) (room : Room k callerA)
    (F : ∀ base : Heap, K.In base → base.Ns mainGlobals mg → FnG P w K mg base CX k fa fd [x] sp) (binds : ∀ (s : Shared) (u : Value), BindsTo s fd ⟨[u], []⟩ [(x, u)])
    (want : sp [.ref a] H (fun v _ => v = .bl true) fun _ _ _ => False) (noEx : ∀ e s', CX [] H st (fun _ _ _ => False) e s' → False)
    (only : Only H) (held : HOk P w H st.heap) (atA : ∀ b, H b ≠ none → b = a) (notK : H a ≠ none → K.lookup a = none) :
    codeAny (model P w) callerA (.call (.ref fa) ⟨[.ref a], []⟩) (fun r s' => r = .ok (.ret (.bool true)) ∧ OldK st.heap s'.heap ∧ s'.os = st.os ∧ AllBare s'.gens) st := by
  have dicts : ∀ {b : Addr} {m : Str → Option Value}, st.heap.Ns b m → (hidT st.heap H).Ns b m := by
    rintro b m ⟨o, es, ep, q, d, rest⟩
    refine ⟨o, es, ep, hidT_get q ?_, d, rest⟩
    cases z : H b with
    | none => rfl
    | some u =>
      have eb := atA b (by rw [z]; exact Option.some_ne_none u)
      rw [eb, lst] at q
      have eo := Option.some.inj q
      rw [← eo] at d
      exact (nomatch (show Data.seq its.toArray _ = Data.dict es ep from d))
  have baseK : K.In (hidT st.heap H) := by
    intro b o q
    refine hidT_get (inK b o q) ?_
    cases z : H b with
    | none => rfl
    | some u =>
      have ne : H b ≠ none := by rw [z]; exact Option.some_ne_none u
      have eb := atA b ne
      subst eb
      rw [notK ne] at q
      exact nomatch q
  obtain ⟨mc, l1, l2⟩ := noLim
  have env : Env0 P w K mg (hidT st.heap H) callerA [] st H :=
    { frames := rfl, mod := { kin := baseK, glob := dicts globals, blt := ⟨mb, dicts blt, bltIs⟩, nolimit := ⟨mc, dicts l1, l2⟩ }, bs := fun b o q => of_hidT q,
      bsz := Nat.le_of_eq (hidT_size _ _), funs := trivial, frf := fun b z => (nomatch z), hok := held, bare := .of_eq noGen }
  refine codeAny_mono ((F _ baseK (dicts globals)).go callerA [] st H ⟨[.ref a], []⟩ [.ref a] [.ref a] _ _ rfl room env (binds st (.ref a)) (.cons rfl .nil) want) ?_
  intro r s' q
  match r, q with
  | .error e, q => exact (noEx e s' q).elim
  | .ok .next, q => exact (show False from q).elim
  | .ok .brk, q => exact (show False from q).elim
  | .ok .cont, q => exact (show False from q).elim
  | .ok (.ret u), ⟨v, H', eos, bare, un, held', rv, ev⟩ =>
    have ev' : v = .bl true := ev
    subst ev'
    cases (show u = Value.bool true from rv)
    refine ⟨rfl, OldK.of_keep ?_, eos, bare⟩
    intro b o q
    cases z : H b with
    | none => exact un.keep b o q z (fun y => nomatch y) (fun y => nomatch y)
    | some u =>
      obtain y | ⟨ob, xs, y⟩ := only b
      · rw [z] at y
        exact nomatch y
      · have q1 := (held b _ y).1
        have q2 := (held' b _ (un.frzs b ob _ y)).1
        rw [q] at q1
        rw [Option.some.inj q1]
        exact q2
theorem lawG (inK : K.In st.heap) (globals : st.heap.Ns mainGlobals mg) (blt : st.heap.Ns builtinsNs mb) (bltIs : ∀ x : Str, x ≠ "__name__" → mb x = bootBuiltins x) (noLim : st.heap.NoLimit) (noGen : st.gens = #[])
    (lst : st.heap.get? a = some { cls := .type "list", data := .seq its.toArray }) (areInts : IntsAre its ns) (len : ns.length ≤ sizeLine) (room : Room k callerA)
    (F : ∀ base : Heap, K.In base → base.Ns mainGlobals mg → FnG P w K mg base CX k fa fd [x] sp) (binds : ∀ (s : Shared) (u : Value), BindsTo s fd ⟨[u], []⟩ [(x, u)])
    (want : ∀ H : Hp, Only H → SqL K H a (ns.map V.int) → sp [.ref a] H (fun v _ => v = .bl true) fun _ _ _ => False) (noEx : ∀ H e s', CX [] H st (fun _ _ _ => False) e s' → False) :
    codeAny (model P w) callerA (.call (.ref fa) ⟨[.ref a], []⟩) (fun r s' => r = .ok (.ret (.bool true)) ∧ OldK st.heap s'.heap ∧ s'.os = st.os ∧ AllBare s'.gens) st := by
  have rel := vals_ints areInts
  cases z : K.lookup a with
  | some o =>
    have q := inK a o z
    rw [lst] at q
    have eo := Option.some.inj q
    subst eo
    have only : Only (fun _ => none) := fun _ => Or.inl rfl
    have sq : SqL K (fun _ => none) a (ns.map V.int) := Or.inr ⟨_, its.toArray, _, z, rfl, rfl, rfl, by rw [List.size_toArray, areInts.length]; exact len, rel⟩
    exact lawG_at inK globals blt bltIs noLim noGen lst room F binds (want _ only sq) (noEx _) only (fun b u y => nomatch (show none = some u from y)) (fun b y => (y rfl).elim) (fun y => (y rfl).elim)
  | none =>
    let H : Hp := upd (fun _ => none) a (.frz { cls := .type "list", data := .seq its.toArray } (.lst (ns.map V.int)))
    have at1 : H a = some (.frz { cls := .type "list", data := .seq its.toArray } (.lst (ns.map V.int))) := upd_same
    have off : ∀ b, b ≠ a → H b = none := fun b hb => upd_ne hb
    have only : Only H := by
      intro b
      by_cases hb : b = a
      · rw [hb]
        exact Or.inr ⟨_, _, at1⟩
      · exact Or.inl (off b hb)
    have only1 : ∀ b, H b ≠ none → b = a := by
      intro b y
      by_cases hb : b = a
      · exact hb
      · exact (y (off b hb)).elim
    have held : HOk P w H st.heap := by
      intro b u y
      have hb : b = a := only1 b (by rw [y]; exact Option.some_ne_none u)
      subst hb
      rw [at1] at y
      rw [← Option.some.inj y]
      exact ⟨lst, by rw [List.length_map]; exact len, its, _, rel, lst⟩
    exact lawG_at inK globals blt bltIs noLim noGen lst room F binds (want _ only (Or.inl (Or.inr ⟨_, at1⟩))) (noEx _) only held only1 fun _ => z
end
/-- a law: what the head leaves, from the law's promise -/
theorem walkG {l : PySem.W.OpenLaw} {n k : Nat} {q : Program} {loose : List Str} {XP : (Str → Option Value) → Heap → Prop} {YP : World → Heap → Prop} {d : DefRec} {x : Str}
    (most : l.most = some n) (small : n ≤ sizeLine) (plain : d.params.defaults = []) (room : Room k callerA)
    (F : ∀ (w : World) (mg : Str → Option Value) (fa : Addr) (h : Heap), YP w h → h.Ns mainGlobals mg → mg d.name = some (.ref fa) →
      ∃ (K : PySem.W.Frag) (fd : FuncData) (sp : Sp), K.In h ∧ (∀ (s : Shared) (u : Value), BindsTo s fd ⟨[u], []⟩ [(x, u)]) ∧
        (∀ (H : Hp) (a : Addr) (ns : List Int), ns.length ≤ n → Only H → SqL K H a (ns.map V.int) → sp [.ref a] H (fun v _ => v = .bl true) fun _ _ _ => False) ∧
        ∀ base : Heap, K.In base → base.Ns mainGlobals mg → FnG l.prog w K mg base CX0 k fa fd [x] sp) :
    PySem.W.WalkO q loose XP YP l.row.toRowW d [] (fun f vs => PySem.call f vs) := by
  apply Att.attach_call most plain
  intro w s0 s1 mg mb fa o pm cd doc a vs ns G Y _ _ _ gl lst areInts len gens
  obtain ⟨K, fd, sp, inK, binds, want, run⟩ := F w mg fa _ Y G.T.g gl
  exact lawG inK G.T.g G.T.b G.T.builtins G.T.nolimit gens lst areInts (Nat.le_trans len small) room run binds (fun H o s => want H a ns len o s) fun _ _ _ y => y.elim
end Hw

set_option Elab.async false
set_option linter.all false
set_option maxRecDepth 100000
set_option maxHeartbeats 4000000
/-! data that stands in tracked lists, tuples, dicts -/
namespace Hw
open PySem PySem.Spec PyProof.Rows L2
mutual
inductive Dt (H : Hp) : V → PyData → Prop
  | non : Dt H .non .none
  | bl (b : Bool) : Dt H (.bl b) (.bool b)
  | int (i : Int) : Dt H (.int i) (.int i)
  | str (x : Str) : Dt H (.str x) (.str x)
  | lst {a : Addr} {xs : List V} {ds : List PyData} : H a = some (.lst xs) → DtAll H xs ds → Dt H (.ref a) (.list ds)
  | tup {a : Addr} {xs : List V} {ds : List PyData} : H a = some (.tup xs) → DtAll H xs ds → Dt H (.ref a) (.tuple ds)
  | dic {a : Addr} (kvs : List (Str × Int)) : H a = some (.dK (kvs.map fun p => (.inr p.1, .int p.2))) → Dt H (.ref a) (.dict (kvs.map fun p => (.str p.1, .int p.2)))
inductive DtAll (H : Hp) : List V → List PyData → Prop
  | nil : DtAll H [] []
  | cons {v : V} {vs : List V} {d : PyData} {ds : List PyData} : Dt H v d → DtAll H vs ds → DtAll H (v :: vs) (d :: ds)
end
mutual
theorem Dt.same {H H' : Hp} (e : Same H H') : ∀ (d : PyData) (v : V), Dt H v d → Dt H' v d
  | .none, _, h => by cases h; exact .non
  | .bool b, _, h => by cases h; exact .bl b
  | .int i, _, h => by cases h; exact .int i
  | .str x, _, h => by cases h; exact .str x
  | .list ds, _, h => by
    cases h with
    | lst hs ha => exact .lst (e _ _ hs) (DtAll.same e ds _ ha)
  | .tuple ds, _, h => by
    cases h with
    | tup hs ha => exact .tup (e _ _ hs) (DtAll.same e ds _ ha)
  | .dict ds, _, h => by
    cases h with
    | dic kvs hs => exact .dic kvs (e _ _ hs)
theorem DtAll.same {H H' : Hp} (e : Same H H') : ∀ (ds : List PyData) (vs : List V), DtAll H vs ds → DtAll H' vs ds
  | [], _, h => by cases h; exact .nil
  | d :: ds, _, h => by
    cases h with
    | cons h1 h2 => exact .cons (Dt.same e d _ h1) (DtAll.same e ds _ h2)
end
theorem Dt.to {H H' : Hp} {v : V} {d : PyData} (h : Dt H v d) (e : Same H H') : Dt H' v d := Dt.same e d v h
theorem DtAll.to {H H' : Hp} {v : List V} {d : List PyData} (h : DtAll H v d) (e : Same H H') : DtAll H' v d := DtAll.same e d v h
/-- a write at a place that held nothing of the data -/
theorem Dt.toX {a : Addr} {H H' : Hp} (e : SameX a H H') (H0 : Hp) (s : Same H0 H) (n : H0 a = none) {v : V} {d : PyData} (h : Dt H0 v d) : Dt H' v d := h.to (e.same s n)
theorem DtAll.len {H : Hp} : ∀ {vs : List V} {ds : List PyData}, DtAll H vs ds → vs.length = ds.length
  | _, _, .nil => rfl
  | _, _, .cons _ r => by rw [List.length_cons, List.length_cons, r.len]
theorem DtAll.get {H : Hp} : ∀ {vs : List V} {ds : List PyData}, DtAll H vs ds → ∀ (i : Nat) (v : V), vs[i]? = some v → ∃ d, ds[i]? = some d ∧ Dt H v d
  | _, _, .nil, i, v, h => by simp at h
  | _, _, .cons h1 r, 0, v, h => by
    have e := Option.some.inj (show some _ = some v from h)
    subst e
    exact ⟨_, rfl, h1⟩
  | _, _, .cons _ r, i + 1, v, h => r.get i v h
theorem DtAll.app {H : Hp} : ∀ {vs : List V} {ds : List PyData} {ws : List V} {es : List PyData}, DtAll H vs ds → DtAll H ws es → DtAll H (vs ++ ws) (ds ++ es)
  | _, _, _, _, .nil, k => k
  | _, _, _, _, .cons h r, k => .cons h (r.app k)
theorem DtAll.one {H : Hp} {v : V} {d : PyData} (h : Dt H v d) : DtAll H [v] [d] := .cons h .nil
theorem DtAll.ints {H : Hp} : ∀ l : List Int, DtAll H (l.map V.int) (l.map PyData.int)
  | [] => .nil
  | x :: r => .cons (.int x) (DtAll.ints r)
theorem DtAll.bls {H : Hp} : ∀ l : List Bool, DtAll H (l.map V.bl) (l.map PyData.bool)
  | [] => .nil
  | x :: r => .cons (.bl x) (DtAll.bls r)
theorem Dt.ints {H : Hp} {a : Addr} {l : List Int} (h : H a = some (.lst (l.map V.int))) : Dt H (.ref a) (.list (l.map PyData.int)) := .lst h (DtAll.ints l)
theorem readsKV {h : Heap} {P : Program} {w : World} : ∀ (kvs : List (Str × Int)) (vs : List (Key × Value)) (es : List DictEntry), KV (kvs.map fun p => ((.inr p.1 : Key), V.int p.2)) vs → PySem.Pairs (mixKind P w) es vs →
    ReadsAll h (es.map (·.key)) ((kvs.map fun p => (PyData.str p.1, PyData.int p.2)).map (·.1)) [] ∧ ReadsAll h (es.map (·.val)) ((kvs.map fun p => (PyData.str p.1, PyData.int p.2)).map (·.2)) []
  | [], _, _, .nil, .nil => ⟨.nil, .nil⟩
  | p :: r, _, _, .cons h1 t1, .cons f1 f2 t2 => by
    obtain ⟨a, b⟩ := readsKV (h := h) r _ _ t1 t2
    obtain ⟨e1, e2⟩ := h1
    skip
    skip
    obtain ⟨t, ht⟩ := e2
    constructor
    · refine ReadsAll.cons (as := []) (bs := []) ?_ a
      rw [← e1] at f1
      have f1 : keyIs (.inr p.1) _ = true := f1
      rcases keyIs_shape f1 with ⟨i, t, z, q⟩ | ⟨x, t, z, q⟩
      · cases z
      · dsimp only
        rw [q]
        cases z
        exact .str _ _
    · refine ReadsAll.cons (as := []) (bs := []) ?_ b
      dsimp only
      rw [f2, ht]
      exact .int _ _
section
variable {X : Cx} {pins : List (Addr × Obj)} {σ : L2.St} {H : Hp} {s : Shared}
mutual
theorem Dt.reads (I : Inv X pins σ H s) : ∀ (d : PyData) (v : V) (u : Value), Dt H v d → RelV v u → ∃ as, Reads s.heap u d as ∧ ((∃ kvs, d = .dict kvs) → sysModules ∉ as)
  | .none, _, _, h, r => by
    cases h
    cases r
    exact ⟨_, Reads.none, fun ⟨_, z⟩ => nomatch z⟩
  | .bool b, _, _, h, r => by
    cases h
    cases r
    exact ⟨_, Reads.bool b, fun ⟨_, z⟩ => nomatch z⟩
  | .int i, _, _, h, r => by
    cases h
    obtain ⟨t, rfl⟩ := r
    exact ⟨_, Reads.int i t, fun ⟨_, z⟩ => nomatch z⟩
  | .str x, _, _, h, r => by
    cases h
    obtain ⟨t, rfl⟩ := r
    exact ⟨_, Reads.str x t, fun ⟨_, z⟩ => nomatch z⟩
  | .list ds, _, _, h, r => by
    cases h with
    | lst hs ha =>
      cases r
      obtain ⟨its, rv, ⟨o, n, ho, hc, _, hd⟩, _⟩ := I.list (X := X) (show SqL X.K H _ _ from .inl (.inl hs))
      obtain ⟨as, hr⟩ := Dt.readsAll I ds _ its ha rv
      exact ⟨_, Reads.list ho hc hd hr, fun ⟨_, z⟩ => nomatch z⟩
  | .tuple ds, _, _, h, r => by
    cases h with
    | tup hs ha =>
      cases r
      obtain ⟨its, rv, ⟨o, ho, hc, n, hd⟩, _⟩ := I.tuple (X := X) (show SqT X.K H _ _ from .inl (.inl hs))
      obtain ⟨as, hr⟩ := Dt.readsAll I ds _ its ha rv
      exact ⟨_, Reads.tuple ho hc hd hr, fun ⟨_, z⟩ => nomatch z⟩
  | .dict ds, _, _, h, r => by
    cases h with
    | dic kvs hs =>
      cases r
      obtain ⟨_, ns, vs, kv, o, es, ep, ho, hx, hd, _, pr, _⟩ := dk_of I.hok hs
      obtain ⟨a, b⟩ := readsKV (h := s.heap) kvs vs es.toList kv pr
      refine ⟨_, Reads.dict ho hx.1 hd a b, fun _ z => ?_⟩
      simp only [List.append_nil, List.mem_singleton] at z
      rw [← z] at ns
      simp at ns
theorem Dt.readsAll (I : Inv X pins σ H s) : ∀ (ds : List PyData) (vs : List V) (us : List Value), DtAll H vs ds → Vals vs us → ∃ as, ReadsAll s.heap us ds as
  | [], _, _, h, r => by
    cases h
    cases r
    exact ⟨_, ReadsAll.nil⟩
  | d :: ds, _, _, h, r => by
    cases h with
    | cons h1 h2 =>
      cases r with
      | cons r1 r2 =>
        obtain ⟨as, q1, _⟩ := Dt.reads I d _ _ h1 r1
        obtain ⟨bs, q2⟩ := Dt.readsAll I ds _ _ h2 r2
        exact ⟨_, ReadsAll.cons q1 q2⟩
end
end
section
variable {X : Cx}
def rEqT : R2 := fun x y H Q => ∃ d e, Dt H x d ∧ Dt H y e ∧ SeqAt.shaped d = true ∧ SeqAt.shaped e = true ∧ Q (.bl (PyData.eqv d e)) H
def rNeT : R2 := fun x y H Q => ∃ d e, Dt H x d ∧ Dt H y e ∧ SeqAt.shaped d = true ∧ SeqAt.shaped e = true ∧ Q (.bl (!PyData.eqv d e)) H
theorem op_eqT (hu : X.A.units + 64 < cLine) : OpR X (compareOp .Eq) rEqT := by
  intro pins s σ H x y v u Q I rx ry h
  obtain ⟨d, e, hd, he, sd, se, q⟩ := h
  obtain ⟨as, r1, _⟩ := Dt.reads I d x v hd rx
  obtain ⟨bs, r2, _⟩ := Dt.reads I e y u he ry
  exact SeqAt.compareEq_shaped r1 r2 sd se hu ⟨.bl _, H, I, rfl, q⟩
theorem op_neT (hu : X.A.units + 64 < cLine) : OpR X (compareOp .NotEq) rNeT := by
  intro pins s σ H x y v u Q I rx ry h
  obtain ⟨d, e, hd, he, sd, se, q⟩ := h
  obtain ⟨as, r1, _⟩ := Dt.reads I d x v hd rx
  obtain ⟨bs, r2, _⟩ := Dt.reads I e y u he ry
  exact SeqAt.compareNe_shaped r1 r2 sd se hu ⟨.bl _, H, I, rfl, q⟩
/-- data whose repr can be told -/
structure Shows (d : PyData) : Prop where
  show_ : d.showable = true
  fits : d.shown.length ≤ sizeLine
  deep : d.depth ≤ 60
  top : d.hasDict = true → ∃ kvs, d = .dict kvs
theorem Nice.shows {d : PyData} (n : Nice d) : Shows d := ⟨(okD_all d n.ok).2.1, n.fits, n.deep, fun z => by rw [(okD_all d n.ok).2.2.1] at z; cases z⟩
theorem shows_empty : Shows (.dict []) := ⟨by decide +kernel, by rw [sizeLine_eq]; decide +kernel, by decide +kernel, fun _ => ⟨_, rfl⟩⟩
/-- repr of data: its text -/
def rReprT : List V → Hp → VK → Prop := fun xs H Q => ∃ (x : V) (d : PyData), xs = [x] ∧ Dt H x d ∧ Shows d ∧ Q (.str d.shown) H
theorem call_reprT (gd : Gd X.A) (hu : X.A.units + 64 < cLine) : CallR X (.builtin "repr") rReprT := by
  intro pins s σ H xs us Q I r h
  obtain ⟨x, d, rfl, dp, nice, q⟩ := h
  have sh := nice.show_
  have sz := nice.fits
  have dep := nice.deep
  obtain ⟨u, rfl, ru⟩ := vals1 r
  obtain ⟨as, rd, nm⟩ := Dt.reads I d x u dp ru
  have hsm : d.hasDict = true → sysModules ∉ as := fun e => nm (nice.top e)
  cases dp with
  | non => cases (show u = Value.none from ru); exact PySem.P.repr_of_none ⟨.str _, H, I.tok _, ⟨_, rfl⟩, q⟩
  | bl b => cases (show u = Value.bool b from ru); exact PySem.P.repr_of_bool ⟨.str _, H, I.tok _, ⟨_, rfl⟩, by simpa only [PyData.shown] using q⟩
  | int i => obtain ⟨t, rfl⟩ := ru; exact PySem.P.repr_of_int (by simpa only [PyData.showable, decide_eq_true_eq] using sh) ⟨.str _, H, I.tok _, ⟨_, rfl⟩, by simpa only [PyData.shown] using q⟩
  | str z => obtain ⟨t, rfl⟩ := ru; exact PySem.P.repr_of_str ⟨.str _, H, I.tok _, ⟨_, rfl⟩, by simpa only [PyData.shown] using q⟩ (by simpa only [PyData.shown] using sz)
  | @lst a xs ds e1 e2 =>
    cases (show u = Value.ref a from ru)
    exact repr_of_reads' rd sh hsm gd (by omega) (fun _ _ e => e) (fun h' u tk hk => ⟨.str _, H, I.kept hk, ⟨_, rfl⟩, q⟩) sz
  | @tup a xs ds e1 e2 =>
    cases (show u = Value.ref a from ru)
    exact repr_of_reads' rd sh hsm gd (by omega) (fun _ _ e => e) (fun h' u tk hk => ⟨.str _, H, I.kept hk, ⟨_, rfl⟩, q⟩) sz
  | @dic a kvs e1 =>
    cases (show u = Value.ref a from ru)
    exact repr_of_reads' rd sh hsm gd (by omega) (fun _ _ e => e) (fun h' u tk hk => ⟨.str _, H, I.kept hk, ⟨_, rfl⟩, q⟩) sz
end
/-! ### what kind data is of -/
def tyN : PyData → String
  | .none => "NoneType"
  | .bool _ => "bool"
  | .int _ => "int"
  | .str _ => "str"
  | .list _ => "list"
  | .tuple _ => "tuple"
  | .dict _ => "dict"
def isInt : PyData → Bool | .int _ => true | .bool _ => true | _ => false
def isBool : PyData → Bool | .bool _ => true | _ => false
def isList : PyData → Bool | .list _ => true | _ => false
def isTuple : PyData → Bool | .tuple _ => true | _ => false
def isStr : PyData → Bool | .str _ => true | _ => false
theorem kit_int (d : PyData) : kitB (tyN d) "int" = some (isInt d) := by cases d <;> kernel_rfl
theorem kit_bool (d : PyData) : kitB (tyN d) "bool" = some (isBool d) := by cases d <;> kernel_rfl
theorem kit_list (d : PyData) : kitB (tyN d) "list" = some (isList d) := by cases d <;> kernel_rfl
theorem kit_tuple (d : PyData) : kitB (tyN d) "tuple" = some (isTuple d) := by cases d <;> kernel_rfl
theorem kit_str (d : PyData) : kitB (tyN d) "str" = some (isStr d) := by cases d <;> kernel_rfl
theorem Dt.ty {K : PySem.W.Frag} {H : Hp} {v : V} {d : PyData} (h : Dt H v d) : TyX K H v (.type (tyN d)) := by
  cases h with
  | non => exact .base .non
  | bl b => exact .base (.bl b)
  | int i => exact .base (.int i)
  | str x => exact .base (.str x)
  | lst e _ => exact .base (.lst e)
  | tup e _ => exact .base (.tup e)
  | dic kvs e => exact .base (.dK e)
section
variable {X : Cx}
/-- isinstance(x, T) of data -/
def rIsD : List V → Hp → VK → Prop := fun xs H Q => ∃ (x : V) (d : PyData) (T : String) (b : Bool), xs = [x, .ty T] ∧ Dt H x d ∧ kitB (tyN d) T = some b ∧ Q (.bl b) H
theorem call_isD : CallR X (.builtin "isinstance") rIsD := by
  intro pins s σ H xs us Q I r h
  obtain ⟨x, d, T, b, rfl, hd, hk, q⟩ := h
  exact call_isi pins s σ H _ us Q I r ⟨x, .ty T, _, _, b, rfl, .ty T, hd.ty, kit_ty hk, q⟩
end
/-! ### sizes -/
structure Bnd (k b : Nat) (d : PyData) : Prop where
  ok : okD d = true
  deep : d.depth ≤ k
  small : d.bulk ≤ b
theorem Bnd.nice {k b : Nat} {d : PyData} (h : Bnd k b d) (hk : k ≤ 60) (hb : b ≤ 262144) : Nice d := ⟨h.ok, Nat.le_trans h.deep hk, Nat.le_trans h.small hb⟩
theorem Bnd.up {k b k' b' : Nat} {d : PyData} (h : Bnd k b d) (hk : k ≤ k') (hb : b ≤ b') : Bnd k' b' d := ⟨h.ok, Nat.le_trans h.deep hk, Nat.le_trans h.small hb⟩
theorem Bnd.non {k b : Nat} : Bnd k b .none := ⟨by simp only [okD], by simp only [PyData.depth]; omega, by simp only [PyData.bulk]; omega⟩
theorem Bnd.bl {k b : Nat} (x : Bool) : Bnd k b (.bool x) := ⟨by simp only [okD], by simp only [PyData.depth]; omega, by simp only [PyData.bulk]; omega⟩
theorem Bnd.int {k b : Nat} {i : Int} (h : i.natAbs < 10 ^ 38) : Bnd k b (.int i) := ⟨by simp only [okD, decide_eq_true_eq]; exact h, by simp only [PyData.depth]; omega, by simp only [PyData.bulk]; omega⟩
theorem okDs_of : ∀ l : List PyData, (∀ x ∈ l, okD x = true) → okDs l = true
  | [], _ => by simp only [okDs]
  | x :: r, h => by
    simp only [okDs, Bool.and_eq_true]
    exact ⟨h x (List.mem_cons_self ..), okDs_of r fun y hy => h y (List.mem_cons_of_mem _ hy)⟩
theorem okDs_mem : ∀ l : List PyData, okDs l = true → ∀ x ∈ l, okD x = true
  | [], _, x, hx => by cases hx
  | y :: r, h, x, hx => by
    have h' : okD y = true ∧ okDs r = true := by simpa only [okDs, Bool.and_eq_true] using h
    rcases List.mem_cons.mp hx with e | e
    · rw [e]; exact h'.1
    · exact okDs_mem r h'.2 x e
theorem depthAll_mem : ∀ l : List PyData, ∀ x ∈ l, x.depth ≤ PyData.depthAll l
  | [], x, hx => by cases hx
  | y :: r, x, hx => by
    simp only [PyData.depthAll]
    rcases List.mem_cons.mp hx with e | e
    · rw [e]; omega
    · have := depthAll_mem r x e
      omega
theorem bulkAll_mem : ∀ l : List PyData, ∀ x ∈ l, x.bulk ≤ PyData.bulkAll l
  | [], x, hx => by cases hx
  | y :: r, x, hx => by
    simp only [PyData.bulkAll]
    rcases List.mem_cons.mp hx with e | e
    · rw [e]; omega
    · have := bulkAll_mem r x e
      omega
theorem Bnd.list {k b n c : Nat} {ds : List PyData} (h : ∀ x ∈ ds, Bnd k b x) (hl : ds.length ≤ n) (hc : n * (b + 1) ≤ c) : Bnd (k + 1) c (.list ds) := by
  refine ⟨?_, ?_, ?_⟩
  · simp only [okD]
    exact okDs_of ds fun x hx => (h x hx).ok
  · have := depthAll_le (n := k) ds fun x hx => (h x hx).deep
    simp only [PyData.depth]; omega
  · have := bulkAll_le (n := b) ds fun x hx => (h x hx).small
    have := Nat.mul_le_mul_right (b + 1) hl
    simp only [PyData.bulk]; omega
theorem Bnd.tuple {k b n c : Nat} {ds : List PyData} (h : ∀ x ∈ ds, Bnd k b x) (hl : ds.length ≤ n) (hc : n * (b + 1) ≤ c) : Bnd (k + 1) c (.tuple ds) := by
  refine ⟨?_, ?_, ?_⟩
  · simp only [okD]
    exact okDs_of ds fun x hx => (h x hx).ok
  · have := depthAll_le (n := k) ds fun x hx => (h x hx).deep
    simp only [PyData.depth]; omega
  · have := bulkAll_le (n := b) ds fun x hx => (h x hx).small
    have := Nat.mul_le_mul_right (b + 1) hl
    simp only [PyData.bulk]; omega
theorem Nice.listMem {ds : List PyData} (h : Nice (.list ds)) : ∀ x ∈ ds, Nice x := fun x hx => by
  obtain ⟨a, b, c⟩ := h
  have a' : okDs ds = true := by simpa only [okD] using a
  have e1 := depthAll_mem ds x hx
  have e2 := bulkAll_mem ds x hx
  simp only [PyData.depth] at b
  simp only [PyData.bulk] at c
  exact ⟨okDs_mem ds a' x hx, by omega, by omega⟩
theorem Nice.tupMem {ds : List PyData} (h : Nice (.tuple ds)) : ∀ x ∈ ds, Nice x := fun x hx => by
  obtain ⟨a, b, c⟩ := h
  have a' : okDs ds = true := by simpa only [okD] using a
  have e1 := depthAll_mem ds x hx
  have e2 := bulkAll_mem ds x hx
  simp only [PyData.depth] at b
  simp only [PyData.bulk] at c
  exact ⟨okDs_mem ds a' x hx, by omega, by omega⟩
end Hw
namespace Hw
open PySem PySem.Spec PyProof.Rows L2
/-- a turn of a comprehension: the list so far is f 0, .., f (i - 1) -/
theorem lcS {H1 H' : Hp} {D : Addr} {f : Nat → V} {i : Nat} (hD : H1 D = none) (s : Same H1 H') (e : H' D = some (.lst ((List.range i).map f))) (hz : i ≤ 1000000) :
    ∃ acc, H' D = some (.lst acc) ∧ acc.length < sizeLine ∧ Same H1 (upd H' D (.lst (acc ++ [f i]))) ∧ (upd H' D (.lst (acc ++ [f i]))) D = some (.lst ((List.range (i + 1)).map f)) := by
  refine ⟨_, e, ?_, fun b o hb => ?_, ?_⟩
  · rw [List.length_map, List.length_range, sizeLine_eq]; omega
  · rw [upd_ne (ne_of_none hb hD)]
    exact s b o hb
  · rw [upd_same, List.range_succ, List.map_append]
    rfl
theorem range_get {α : Type} (l : List α) (f : α → V) (g : Nat → V) (h : ∀ i x, l[i]? = some x → g i = f x) : (List.range l.length).map g = l.map f := by
  apply List.ext_getElem?
  intro i
  rw [List.getElem?_map, List.getElem?_map]
  by_cases hi : i < l.length
  · rw [List.getElem?_range hi, List.getElem?_eq_getElem hi]
    exact congrArg some (h i _ (List.getElem?_eq_getElem hi))
  · rw [List.getElem?_eq_none (by rw [List.length_range]; omega), List.getElem?_eq_none (by omega)]
    rfl
/-- the same, told of the list's members -/
theorem range_mem {α : Type} {xs : List V} {l : List α} (f : α → V) (g : Nat → V) (hl : xs.length = l.length) (h : ∀ i x, l[i]? = some x → g i = f x) : (List.range xs.length).map g = l.map f := by
  rw [hl]
  exact range_get l f g h
end Hw
namespace Hw
open PySem PySem.Spec PyProof.Rows L2
/-- the answer about the member at i -/
def atF {α : Type} (l : List α) (g : α → Bool) (i : Nat) : Bool := match l[i]? with
  | some y => g y
  | none => false
theorem atF_at {α : Type} {l : List α} {g : α → Bool} {i : Nat} {y : α} (h : l[i]? = some y) : atF l g i = g y := by
  unfold atF
  rw [h]
theorem all_atF {α : Type} (l : List α) (g : α → Bool) : ((List.range l.length).map (atF l g)).all id = l.all g := by
  rw [Bool.eq_iff_iff, List.all_eq_true, List.all_eq_true]
  constructor
  · intro h y hy
    obtain ⟨i, hi, e⟩ := List.getElem_of_mem hy
    have h2 := h (atF l g i) (List.mem_map.mpr ⟨i, List.mem_range.mpr hi, rfl⟩)
    rw [atF_at (List.getElem?_eq_getElem hi), e] at h2
    exact h2
  · intro h b hb
    obtain ⟨i, hi, rfl⟩ := List.mem_map.mp hb
    have hi := List.mem_range.mp hi
    rw [atF_at (List.getElem?_eq_getElem hi)]
    exact h _ (List.getElem_mem hi)
theorem vi {a b : Int} : decide (V.int a = V.int b) = decide (a = b) := by
  by_cases h : a = b
  · rw [h, decide_eq_true rfl, decide_eq_true rfl]
  · rw [decide_eq_false h, decide_eq_false fun z => h (by cases z; rfl)]
theorem vs_eq {a b : Str} : decide (V.str a = V.str b) = decide (a = b) := by
  by_cases h : a = b
  · rw [h, decide_eq_true rfl, decide_eq_true rfl]
  · rw [decide_eq_false h, decide_eq_false fun z => h (by cases z; rfl)]
theorem shaped_list {fs : List PyData} (h : ∀ x ∈ fs, Nice x) : SeqAt.shaped (.list fs) = true := by
  have h1 : PyData.canLayAll0 fs = true := (okDs_all fs (okDs_of fs fun x hx => (h x hx).ok)).1
  have h2 := depthAll_le (n := 60) fs fun x hx => (h x hx).deep
  have h3 : PyData.canLay0 (.list fs) = true := by simp only [PyData.canLay0]; exact h1
  have h4 : PyData.depth (.list fs) ≤ 64 := by simp only [PyData.depth]; omega
  show (PyData.canLay0 (.list fs) && decide (PyData.depth (.list fs) ≤ 64)) = true
  rw [h3, decide_eq_true h4]
  rfl
theorem eqv_nil (fs : List PyData) : PyData.eqv (.list fs) (.list []) = fs.isEmpty := by cases fs <;> simp [PyData.eqv, PyData.eqvAll]
theorem shaped_nil : SeqAt.shaped (.list []) = true := shaped_list fun x hx => nomatch hx
end Hw

/-! ### the rules with the written part named -/
namespace Hw
open PySem PySem.Spec PyProof.Rows L2
section
variable {X : Cx} {K : PySem.W.Frag}
def rLenK (K : PySem.W.Frag) : List V → Hp → VK → Prop := fun xs H Q => ∃ p ys, xs = [.ref p] ∧ (SqL K H p ys ∨ SqT K H p ys) ∧ Q (.int ys.length) H
theorem call_lenK (h : X.K = K) : CallR X (.builtin "len") (rLenK K) := by subst h; exact call_len_seq
theorem cr_allK (h : X.K = K) (hc : X.calm = true) : CallR X (.builtin "all") (rAll K) := by subst h; exact cr_all hc
theorem cr_sumK (h : X.K = K) (hc : X.calm = true) : CallR X (.builtin "sum") (rSum K) := by subst h; exact cr_sum hc
def rListK (K : PySem.W.Frag) : List V → Hp → VK → Prop := fun xs H Q => ∃ p ys, xs = [.ref p] ∧ (SqL K H p ys ∨ SqT K H p ys) ∧ ∀ l, H l = none → Q (.ref l) (upd H l (.lst ys))
theorem call_listK (h : X.K = K) : CallR X (.type "list") (rListK K) := by subst h; exact call_list_of
def rTupK (K : PySem.W.Frag) : List V → Hp → VK → Prop := fun xs H Q => ∃ p ys, xs = [.ref p] ∧ ((SqL K H p ys ∧ ∀ l, H l = none → Q (.ref l) (upd H l (.tup ys))) ∨ (SqT K H p ys ∧ Q (.ref p) H))
theorem call_tupK (h : X.K = K) : CallR X (.type "tuple") (rTupK K) := by subst h; exact call_tuple_of
theorem ix_listK (h : X.K = K) : IxR X (rIxL K) := by subst h; exact ix_list
theorem ix_tupK (h : X.K = K) : IxR X (rIxT K) := by subst h; exact ix_tup
theorem sl_listK (h : X.K = K) : SlR X (rSlL K) := by subst h; exact sl_list
theorem sl_tupK (h : X.K = K) : SlR X (rSlA K) := by subst h; exact sl_tupA
end
end Hw
namespace Hw
open PySem PySem.Spec PyProof.Rows L2
/-! ### the heap but for one place -/
def off (a : Addr) (H : Hp) : Hp := fun b => if b = a then none else H b
theorem off_ne {a b : Addr} {H : Hp} (h : b ≠ a) : off a H b = H b := if_neg h
theorem off_at {a b : Addr} {H : Hp} {o : HO} (h : off a H b = some o) : b ≠ a ∧ H b = some o := by
  unfold off at h
  by_cases e : b = a
  · rw [if_pos e] at h; cases h
  · rw [if_neg e] at h; exact ⟨e, h⟩
theorem off_same {a : Addr} {H : Hp} : Same (off a H) H := fun _ _ h => (off_at h).2
theorem SameX.off {a : Addr} {H H' : Hp} (e : SameX a H H') : Same (off a H) (off a H') := fun b o h => by
  obtain ⟨n, h⟩ := off_at h
  rw [off_ne n]
  exact e b o n h
theorem off_of {a b : Addr} {H : Hp} {o : HO} (n : b ≠ a) (h : H b = some o) : off a H b = some o := by rw [off_ne n]; exact h
theorem Dt.on {a : Addr} {H : Hp} {v : V} {d : PyData} (h : Dt (off a H) v d) : Dt H v d := h.to off_same
/-! ### lists of numbers -/
abbrev natV (l : List Nat) : List V := l.map fun (x : Nat) => V.int (x : Int)
abbrev natD (l : List Nat) : List PyData := l.map fun (x : Nat) => PyData.int (x : Int)
theorem DtAll.nats {H : Hp} : ∀ l : List Nat, DtAll H (natV l) (natD l)
  | [] => .nil
  | x :: r => .cons (.int x) (DtAll.nats r)
theorem DtAll.nats_inv {H : Hp} : ∀ (l : List Nat) (vs : List V), DtAll H vs (natD l) → vs = natV l
  | [], _, h => by cases h; rfl
  | x :: r, _, h => by
    cases h with
    | cons h1 h2 =>
      cases h1
      rw [DtAll.nats_inv r _ h2]
      rfl
theorem DtAll.bls_inv {H : Hp} : ∀ (l : List Bool) (vs : List V), DtAll H vs (l.map PyData.bool) → vs = l.map V.bl
  | [], _, h => by cases h; rfl
  | x :: r, _, h => by
    cases h with
    | cons h1 h2 =>
      cases h1
      rw [DtAll.bls_inv r _ h2]
      rfl
theorem Dt.nats {H : Hp} {a : Addr} {l : List Nat} (h : H a = some (.lst (natV l))) : Dt H (.ref a) (.list (natD l)) := .lst h (DtAll.nats l)
theorem nat_get {l : List Nat} {i : Nat} {x : V} (h : (natV l)[i]? = some x) : ∃ b : Nat, l[i]? = some b ∧ V.int (b : Int) = x := by
  rw [List.getElem?_map] at h
  exact Option.map_eq_some_iff.mp h
theorem nat_at {l : List Nat} {i b : Nat} (h : l[i]? = some b) : (natV l)[i]? = some (V.int (b : Int)) := by
  rw [List.getElem?_map, h]
  rfl
theorem Bnd.nats {l : List Nat} {n c : Nat} (h : ∀ x ∈ l, x < 10 ^ 38) (hl : l.length ≤ n) (hc : n ≤ c) : Bnd 1 c (.list (natD l)) := by
  refine Bnd.list (k := 0) (b := 0) (n := n) (fun d hd => ?_) (by rw [List.length_map]; exact hl) (by omega)
  obtain ⟨x, hx, rfl⟩ := List.mem_map.mp hd
  exact .int (by have := h x hx; omega)
/-! ### bits in columns -/
def bitN (x p : Nat) : Nat := x / 2 ^ p % 2
def worthN : List Nat → Nat
  | [] => 0
  | b :: r => b + 2 * worthN r
theorem worthN_add : ∀ (l : List Nat) (b : Nat), worthN (l ++ [b]) = worthN l + b * 2 ^ l.length
  | [], b => by show b + 2 * 0 = 0 + b * 1; omega
  | c :: r, b => by
    show c + 2 * worthN (r ++ [b]) = c + 2 * worthN r + b * 2 ^ (r.length + 1)
    rw [worthN_add r b, Nat.pow_succ, Nat.mul_add, ← Nat.mul_assoc b, Nat.mul_comm _ 2]
    omega
theorem worthN_lt : ∀ l : List Nat, (∀ b ∈ l, b < 2) → worthN l < 2 ^ l.length
  | [], _ => by show 0 < 1; omega
  | c :: r, h => by
    have h1 := h c (List.mem_cons_self ..)
    have h2 := worthN_lt r fun b hb => h b (List.mem_cons_of_mem _ hb)
    show c + 2 * worthN r < 2 ^ (r.length + 1)
    rw [Nat.pow_succ]
    omega
theorem bitN_lt (x p : Nat) : bitN x p < 2 := Nat.mod_lt _ (by decide)
theorem bitN_worth : ∀ (l : List Nat) (i : Nat), (∀ b ∈ l, b < 2) → bitN (worthN l) i = l.getD i 0
  | [], i, _ => by
    show 0 / 2 ^ i % 2 = ([] : List Nat).getD i 0
    rw [Nat.zero_div]
    rfl
  | c :: r, 0, h => by
    have h1 := h c (List.mem_cons_self ..)
    show (c + 2 * worthN r) / 2 ^ 0 % 2 = c
    rw [Nat.pow_zero, Nat.div_one]
    omega
  | c :: r, i + 1, h => by
    have h1 := h c (List.mem_cons_self ..)
    have ih := bitN_worth r i fun b hb => h b (List.mem_cons_of_mem _ hb)
    show (c + 2 * worthN r) / 2 ^ (i + 1) % 2 = r.getD i 0
    rw [Nat.pow_succ, Nat.mul_comm (2 ^ i) 2, ← Nat.div_div_eq_div_mul, show (c + 2 * worthN r) / 2 = worthN r by omega]
    exact ih
theorem worthN_bits (x : Nat) : ∀ n : Nat, worthN ((List.range n).map (bitN x)) = x % 2 ^ n
  | 0 => by rw [Nat.pow_zero, Nat.mod_one]; rfl
  | n + 1 => by
    rw [List.range_succ, List.map_append, List.map_cons, List.map_nil, worthN_add, worthN_bits x n, List.length_map, List.length_range, Nat.mod_pow_succ, Nat.mul_comm]; rfl
/-- the p-th bits of all -/
def col (l : List Nat) (p : Nat) : Nat := worthN (l.map fun x => bitN x p)
def tr (n : Nat) (l : List Nat) : List Nat := (List.range n).map (col l)
theorem col_bits (l : List Nat) (p : Nat) : ∀ b ∈ l.map fun x => bitN x p, b < 2 := fun b hb => by
  obtain ⟨x, _, rfl⟩ := List.mem_map.mp hb
  exact bitN_lt x p
theorem col_lt (l : List Nat) (p : Nat) : col l p < 2 ^ l.length := by
  have := worthN_lt _ (col_bits l p)
  rw [List.length_map] at this
  exact this
theorem tr_len (n : Nat) (l : List Nat) : (tr n l).length = n := by unfold tr; rw [List.length_map, List.length_range]
theorem tr_lt {n : Nat} {l : List Nat} : ∀ x ∈ tr n l, x < 2 ^ l.length := fun x hx => by
  obtain ⟨p, _, rfl⟩ := List.mem_map.mp hx
  exact col_lt l p
theorem tr_tr {n : Nat} {l : List Nat} (h : ∀ x ∈ l, x < 2 ^ n) : tr l.length (tr n l) = l := by
  apply List.ext_getElem?
  intro i
  unfold tr
  rw [List.getElem?_map]
  by_cases hi : i < l.length
  · rw [List.getElem?_range hi, List.getElem?_eq_getElem hi]
    show some (col ((List.range n).map (col l)) i) = some l[i]
    unfold col
    rw [List.map_map]
    have e : (List.range n).map ((fun x => bitN x i) ∘ fun p => worthN (l.map fun x => bitN x p)) = (List.range n).map (bitN l[i]) := by
      apply List.map_congr_left
      intro p _
      show bitN (worthN (l.map fun x => bitN x p)) i = bitN l[i] p
      rw [bitN_worth _ _ (col_bits l p), List.getD_eq_getElem?_getD, List.getElem?_map, List.getElem?_eq_getElem hi]
      rfl
    rw [e, worthN_bits, Nat.mod_eq_of_lt (h _ (List.getElem_mem hi))]
  · rw [List.getElem?_eq_none (by rw [List.length_range]; omega), List.getElem?_eq_none (by omega)]
    rfl
theorem col_take {l : List Nat} {i x : Nat} (p : Nat) (h : l[i]? = some x) : col (l.take (i + 1)) p = col (l.take i) p + bitN x p * 2 ^ i := by
  unfold col
  have hi : i < l.length := (List.getElem?_eq_some_iff.mp h).1
  rw [List.take_add_one, h, List.map_append]
  show worthN (_ ++ [bitN x p]) = _
  rw [worthN_add, List.length_map, List.length_take, Nat.min_eq_left (by omega)]
/-! ### tables -/
structure Tb where
  many : Nat
  steps : List (List Nat)
  ends : List Bool
def Tb.d (t : Tb) : PyData := .tuple [.int (t.many : Int), .list (t.steps.map fun l => .list (natD l)), .list (t.ends.map .bool)]
structure Tb.Good (t : Tb) : Prop where
  many : t.many ≤ 6
  some : 0 < t.steps.length
  same : t.ends.length = t.steps.length
  line : ∀ l ∈ t.steps, l.length = 2 ^ t.many
  stand : ∀ l ∈ t.steps, ∀ x ∈ l, x < t.steps.length
def Tb.next (t : Tb) (s c : Nat) : Nat := (t.steps.getD s []).getD c 0
def Tb.behind (t : Tb) (l : List Nat) : Nat := l.foldl t.next 0
theorem Tb.Good.next {t : Tb} (g : t.Good) {s c : Nat} (hs : s < t.steps.length) (hc : c < 2 ^ t.many) : ∃ l, t.steps[s]? = Option.some l ∧ l[c]? = Option.some (t.next s c) ∧ t.next s c < t.steps.length := by
  have e := List.getElem?_eq_getElem hs
  have hl := g.line _ (List.getElem_mem hs)
  have hc' : c < (t.steps[s]).length := by omega
  have e2 := List.getElem?_eq_getElem hc'
  have en : t.next s c = t.steps[s][c] := by
    unfold Tb.next
    rw [List.getD_eq_getElem?_getD, List.getD_eq_getElem?_getD, e, Option.getD_some, e2]
    rfl
  exact ⟨_, e, by rw [en]; exact e2, by rw [en]; exact g.stand _ (List.getElem_mem hs) _ (List.getElem_mem hc')⟩
theorem Tb.Good.behind {t : Tb} (g : t.Good) : ∀ (l : List Nat) (s : Nat), s < t.steps.length → (∀ x ∈ l, x < 2 ^ t.many) → l.foldl t.next s < t.steps.length
  | [], s, hs, _ => hs
  | c :: r, s, hs, h => by
    obtain ⟨_, _, _, h3⟩ := g.next hs (h c (List.mem_cons_self ..))
    exact g.behind r _ h3 fun x hx => h x (List.mem_cons_of_mem _ hx)
theorem Tb.behind_take {t : Tb} {l : List Nat} {i c : Nat} (h : l[i]? = some c) : t.behind (l.take (i + 1)) = t.next (t.behind (l.take i)) c := by
  unfold Tb.behind
  rw [List.take_add_one, h, List.foldl_append]
  rfl
/-- where the table's parts stand -/
theorem Dt.tab {H : Hp} {x : V} {t : Tb} (h : Dt H x t.d) : ∃ (a b c : Addr) (ys : List V), x = .ref a ∧ H a = some (.tup [.int (t.many : Int), .ref b, .ref c]) ∧ H b = some (.lst ys) ∧ ys.length = t.steps.length ∧
    (∀ (i : Nat) (l : List Nat), t.steps[i]? = some l → ∃ r : Addr, ys[i]? = some (V.ref r) ∧ H r = some (.lst (natV l))) ∧ H c = some (.lst (t.ends.map V.bl)) ∧ DtAll H ys (t.steps.map fun l => .list (natD l)) := by
  unfold Tb.d at h
  cases h with
  | @tup a xs ds ha hs =>
  cases hs with
  | cons hm hs =>
  cases hs with
  | cons hst hs =>
  cases hs with
  | cons hen hs =>
  cases hs with
  | nil =>
  cases hm
  cases hst with
  | @lst b ys ss hb hss =>
  cases hen with
  | @lst c zs es hc hes =>
  have e := DtAll.bls_inv _ _ hes
  subst e
  have hl : ys.length = t.steps.length := by rw [hss.len, List.length_map]
  refine ⟨a, b, c, ys, rfl, ha, hb, hl, fun i l hi => ?_, hc, hss⟩
  have il : i < ys.length := by rw [hl]; exact (List.getElem?_eq_some_iff.mp hi).1
  obtain ⟨d, hd, hy⟩ := hss.get i _ (List.getElem?_eq_getElem il)
  rw [List.getElem?_map, hi] at hd
  cases hd
  generalize hz : ys[i] = z at hy
  cases hy with
  | @lst r qs _ hr hq =>
    have e := DtAll.nats_inv _ _ hq
    subst e
    exact ⟨r, by rw [List.getElem?_eq_getElem il, hz], hr⟩
end Hw
namespace Hw
open PySem PySem.Spec PyProof.Rows L2
/-! ### a comprehension with a test -/
def Flt (ds : List PyData) (p : PyData → Bool) (H1 : Hp) (D : Addr) (i : Nat) (H' : Hp) : Prop := Same H1 H' ∧ ∃ vs, H' D = some (.lst vs) ∧ DtAll H1 vs ((ds.take i).filter p) ∧ vs.length ≤ i
theorem Flt.start {ds : List PyData} {p : PyData → Bool} {H1 : Hp} {D : Addr} (hD : H1 D = none) : Flt ds p H1 D 0 (upd H1 D (.lst [])) := ⟨same_new' hD, [], upd_same, .nil, Nat.le_refl _⟩
theorem Flt.keep {ds : List PyData} {p : PyData → Bool} {H1 H' : Hp} {D : Addr} {i : Nat} {d : PyData} {y : V} (f : Flt ds p H1 D i H') (hD : H1 D = none) (hi : ds[i]? = some d) (hp : p d = true) (hy : Dt H1 y d) (hz : i ≤ 1000000) :
    ∃ acc, H' D = some (.lst acc) ∧ acc.length < sizeLine ∧ Flt ds p H1 D (i + 1) (upd H' D (.lst (acc ++ [y]))) := by
  obtain ⟨s, vs, e, hv, hl⟩ := f
  refine ⟨vs, e, by rw [sizeLine_eq]; omega, fun b o hb => ?_, vs ++ [y], upd_same, ?_, by rw [List.length_append]; show vs.length + 1 ≤ i + 1; omega⟩
  · rw [upd_ne (ne_of_none hb hD)]
    exact s b o hb
  · rw [List.take_add_one, hi, List.filter_append]
    refine hv.app ?_
    show DtAll H1 [y] (List.filter p [d])
    rw [List.filter_cons_of_pos hp]
    exact .cons hy .nil
theorem Flt.skip {ds : List PyData} {p : PyData → Bool} {H1 H' : Hp} {D : Addr} {i : Nat} {d : PyData} (f : Flt ds p H1 D i H') (hi : ds[i]? = some d) (hp : p d = false) : Flt ds p H1 D (i + 1) H' := by
  obtain ⟨s, vs, e, hv, hl⟩ := f
  refine ⟨s, vs, e, ?_, by omega⟩
  rw [List.take_add_one, hi, List.filter_append]
  show DtAll H1 vs (_ ++ List.filter p [d])
  rw [List.filter_cons_of_neg (by rw [hp]; exact Bool.false_ne_true), List.filter_nil, List.append_nil]
  exact hv
theorem Flt.done {ds : List PyData} {p : PyData → Bool} {H1 H' : Hp} {D : Addr} {n : Nat} (f : Flt ds p H1 D n H') (hn : n = ds.length) : Same H1 H' ∧ Dt H' (.ref D) (.list (ds.filter p)) := by
  obtain ⟨s, vs, e, hv, hl⟩ := f
  subst hn
  rw [List.take_length] at hv
  exact ⟨s, .lst e (hv.to s)⟩
theorem filter_none {α : Type} (p : α → Bool) : ∀ l : List α, (l.filter fun x => !p x).isEmpty = l.all p
  | [] => rfl
  | x :: r => by
    rw [List.all_cons, ← filter_none p r]
    cases h : p x with
    | true => rw [List.filter_cons_of_neg (by rw [h]; exact Bool.false_ne_true)]; rfl
    | false => rw [List.filter_cons_of_pos (by rw [h]; rfl)]; rfl
/-- .. != [] of such a list -/
theorem ne_nil {H' : Hp} {E : Addr} {x : V} {ds : List PyData} {p : PyData → Bool} {Q : VK} (hx : Dt H' x (.list (ds.filter p))) (hE : H' E = none) (nd : ∀ d ∈ ds, Nice d) (h : Q (.bl (!(ds.filter p).isEmpty)) (upd H' E (.lst []))) : rNeT x (.ref E) (upd H' E (.lst [])) Q := by
  refine ⟨_, .list [], hx.to (same_new' hE), .lst upd_same .nil, shaped_list fun d hd => nd d (List.mem_filter.mp hd).1, shaped_nil, ?_⟩
  rw [eqv_nil]
  exact h
end Hw

set_option Elab.async false
set_option linter.all false
set_option maxRecDepth 100000
set_option maxHeartbeats 4000000
/-! expressions that only lay new data: what they give, without their places -/
namespace Hw
open PySem PySem.Spec PyProof.Rows L2
/-- the heap without some places -/
def offs (l : List Addr) (H : Hp) : Hp := fun b => if b ∈ l then none else H b
theorem offs_at {l : List Addr} {b : Addr} {H : Hp} {o : HO} (h : offs l H b = some o) : b ∉ l ∧ H b = some o := by
  unfold offs at h
  by_cases e : b ∈ l
  · rw [if_pos e] at h; cases h
  · rw [if_neg e] at h; exact ⟨e, h⟩
theorem offs_of {l : List Addr} {b : Addr} {H : Hp} {o : HO} (n : b ∉ l) (h : H b = some o) : offs l H b = some o := by
  unfold offs
  rw [if_neg n]
  exact h
theorem offs_same {l : List Addr} {H : Hp} : Same (offs l H) H := fun _ _ h => (offs_at h).2
theorem offs_mono {l : List Addr} {H H' : Hp} (e : Same H H') : Same (offs l H) (offs l H') := fun b o h => by
  obtain ⟨n, h⟩ := offs_at h
  exact offs_of n (e b o h)
theorem offs_one {a : Addr} {H : Hp} : off a H = offs [a] H := by
  funext b
  unfold off offs
  by_cases h : b = a
  · rw [if_pos h, if_pos (by rw [h]; exact List.mem_singleton.mpr rfl)]
  · rw [if_neg h, if_neg fun z => h (List.mem_singleton.mp z)]
/-- a write at a hidden place -/
theorem offs_upd {l : List Addr} {F : Addr} {H : Hp} {o : HO} (h : F ∈ l) : offs l (upd H F o) = offs l H := by
  funext b
  unfold offs
  by_cases e : b ∈ l
  · rw [if_pos e, if_pos e]
  · rw [if_neg e, if_neg e, upd_ne fun z => e (by rw [z]; exact h)]
/-- what the work rests on: it stays while new things are laid -/
structure Stb (l : List Addr) (S : Hp → Prop) : Prop where
  keep : ∀ H H', S H → Same H H' → S H'
  new : ∀ H p, S H → H p = none → p ∉ l
abbrev Fi := V → Hp → Prop
def Ev (S : Hp → Prop) (φ : Fi) (te : TE) (σ : L2.St) : Prop := ∀ H Q, S H → (∀ x H', Same H H' → φ x H' → Q x H') → te σ H Q
def Eva (S : Hp → Prop) (Φ : List V → Hp → Prop) (ta : TA) (σ : L2.St) : Prop := ∀ H Q, S H → (∀ xs H', Same H H' → Φ xs H' → Q xs H') → ta σ H Q
def Evo (S : Hp → Prop) (to : TO) (σ : L2.St) : Prop := ∀ H (Q : Option Int → Hp → Prop), S H → (∀ x H', Same H H' → Q x H') → to σ H Q
/-- data; a list, a tuple of data; data one by one -/
def D (l : List Addr) (P : PyData → Prop) : Fi := fun x H => ∃ d, Dt (offs l H) x d ∧ P d
def LD (l : List Addr) (P : PyData → Prop) (n : Nat) : Fi := fun x H => ∃ p vs ds, x = .ref p ∧ offs l H p = some (.lst vs) ∧ DtAll (offs l H) vs ds ∧ (∀ d ∈ ds, P d) ∧ ds.length ≤ n
def TD (l : List Addr) (P : PyData → Prop) (n : Nat) : Fi := fun x H => ∃ p vs ds, x = .ref p ∧ offs l H p = some (.tup vs) ∧ DtAll (offs l H) vs ds ∧ (∀ d ∈ ds, P d) ∧ ds.length ≤ n
def AD (l : List Addr) (P : PyData → Prop) (n : Nat) : List V → Hp → Prop := fun xs H => ∃ ds, DtAll (offs l H) xs ds ∧ (∀ d ∈ ds, P d) ∧ ds.length ≤ n
section
variable {l : List Addr} {P : PyData → Prop} {k b n k' b' n' : Nat} {S : Hp → Prop} {σ : L2.St} {K : PySem.W.Frag}
theorem D.same {x : V} {H H' : Hp} (h : D l P x H) (e : Same H H') : D l P x H' := by
  obtain ⟨d, hd, hb⟩ := h
  exact ⟨d, hd.to (offs_mono e), hb⟩
theorem D.up {x : V} {H : Hp} (h : D l (Bnd k b) x H) (hk : k ≤ k') (hb : b ≤ b') : D l (Bnd k' b') x H := by
  obtain ⟨d, hd, h2⟩ := h
  exact ⟨d, hd, h2.up hk hb⟩
theorem LD.same {x : V} {H H' : Hp} (h : LD l P n x H) (e : Same H H') : LD l P n x H' := by
  obtain ⟨p, vs, ds, rfl, h1, h2, h3, h4⟩ := h
  exact ⟨p, vs, ds, rfl, offs_mono e _ _ h1, h2.to (offs_mono e), h3, h4⟩
theorem LD.d {x : V} {H : Hp} (h : LD l (Bnd k b) n x H) : D l (Bnd (k + 1) (n * (b + 1))) x H := by
  obtain ⟨p, vs, ds, rfl, h1, h2, h3, h4⟩ := h
  exact ⟨.list ds, .lst h1 h2, Bnd.list h3 h4 (Nat.le_refl _)⟩
theorem TD.d {x : V} {H : Hp} (h : TD l (Bnd k b) n x H) : D l (Bnd (k + 1) (n * (b + 1))) x H := by
  obtain ⟨p, vs, ds, rfl, h1, h2, h3, h4⟩ := h
  exact ⟨.tuple ds, .tup h1 h2, Bnd.tuple h3 h4 (Nat.le_refl _)⟩
theorem LD.up {x : V} {H : Hp} (h : LD l (Bnd k b) n x H) (hk : k ≤ k') (hb : b ≤ b') (hn : n ≤ n') : LD l (Bnd k' b') n' x H := by
  obtain ⟨p, vs, ds, rfl, h1, h2, h3, h4⟩ := h
  exact ⟨p, vs, ds, rfl, h1, h2, fun d hd => (h3 d hd).up hk hb, by omega⟩
theorem Ev.mono {φ ψ : Fi} {te : TE} (h : Ev S φ te σ) (m : ∀ x H, φ x H → ψ x H) : Ev S ψ te σ := fun H Q s q => h H Q s fun x H' e p => q x H' e (m x H' p)
theorem Ev.du {te : TE} (h : Ev S (D l (Bnd k b)) te σ) (hk : k ≤ k' := by decide) (hb : b ≤ b' := by decide) : Ev S (D l (Bnd k' b')) te σ := h.mono fun _ _ p => p.up hk hb
theorem Ev.ld {te : TE} (h : Ev S (LD l (Bnd k b) n) te σ) (hk : k + 1 ≤ k' := by decide) (hb : n * (b + 1) ≤ b' := by decide) : Ev S (D l (Bnd k' b')) te σ := h.mono fun _ _ p => p.d.up hk hb
theorem Ev.td {te : TE} (h : Ev S (TD l (Bnd k b) n) te σ) (hk : k + 1 ≤ k' := by decide) (hb : n * (b + 1) ≤ b' := by decide) : Ev S (D l (Bnd k' b')) te σ := h.mono fun _ _ p => p.d.up hk hb
theorem Ev.lu {te : TE} (h : Ev S (LD l (Bnd k b) n) te σ) (hk : k ≤ k' := by decide) (hb : b ≤ b' := by decide) (hn : n ≤ n' := by decide) : Ev S (LD l (Bnd k' b') n') te σ := h.mono fun _ _ p => p.up hk hb hn
/-! constants, names -/
theorem Ev.non : Ev S (D l (Bnd k b)) (tC .non) σ := fun H Q _ q => q _ H (Same.refl H) ⟨_, .non, .non⟩
theorem Ev.bl (x : Bool) : Ev S (D l (Bnd k b)) (tC (.bl x)) σ := fun H Q _ q => q _ H (Same.refl H) ⟨_, .bl x, .bl x⟩
theorem Ev.int (i : Int) (h : i.natAbs < 10 ^ 38 := by decide) : Ev S (D l (Bnd k b)) (tC (.int i)) σ := fun H Q _ q => q _ H (Same.refl H) ⟨_, .int i, .int h⟩
theorem Bnd.str {x : Str} (h : okD (.str x) = true) (hb : x.cps.size ≤ b) : Bnd k b (.str x) := ⟨h, by simp only [PyData.depth]; omega, by simp only [PyData.bulk]; omega⟩
theorem Ev.str (x : Str) (h : okD (.str x) = true := by decide +kernel) (hb : x.cps.size ≤ b := by decide +kernel) : Ev S (D l (Bnd k b)) (tC (.str x)) σ := fun H Q _ q => q _ H (Same.refl H) ⟨_, .str x, .str h hb⟩
theorem Ev.var {φ : Fi} {i : Nat} {x : V} (h : σ[i]? = some (some x)) (hx : ∀ H, S H → φ x H) : Ev S φ (tVar i) σ := fun H Q s q => ⟨x, h, q x H (Same.refl H) (hx H s)⟩
/-! lists, tuples -/
theorem Eva.nil : Eva S (AD l P 0) tNil σ := fun H Q _ q => q _ H (Same.refl H) ⟨[], .nil, (fun _ h => nomatch h), Nat.le_refl _⟩
theorem Eva.cons (st : Stb l S) {te : TE} {ta : TA} (h : Ev S (D l P) te σ) (r : Eva S (AD l P n) ta σ) : Eva S (AD l P (n + 1)) (tCons te ta) σ := fun H Q s q => by
  refine h H _ s fun x H1 e1 p1 => r H1 _ (st.keep _ _ s e1) fun xs H2 e2 p2 => q _ H2 (e1.trans e2) ?_
  obtain ⟨d, hd, hb⟩ := p1.same e2
  obtain ⟨ds, h1, h2, h3⟩ := p2
  exact ⟨d :: ds, .cons hd h1, fun y hy => by
    rcases List.mem_cons.mp hy with z | z
    · rw [z]; exact hb
    · exact h2 y z, by rw [List.length_cons]; omega⟩
theorem Ev.lst (st : Stb l S) {ta : TA} (h : Eva S (AD l P n) ta σ) (hn : n ≤ 100000 := by decide) : Ev S (LD l P n) (tLst ta) σ := fun H Q s q => by
  refine h H _ s fun xs H1 e1 p1 => ?_
  obtain ⟨ds, h1, h2, h3⟩ := p1
  refine ⟨by rw [h1.len, sizeLine_eq]; omega, fun p hp => ?_⟩
  have np := st.new H1 p (st.keep _ _ s e1) hp
  have e2 := same_new' (o := .lst xs) hp
  exact q _ _ (e1.trans e2) ⟨p, xs, ds, rfl, offs_of np upd_same, h1.to (offs_mono e2), h2, h3⟩
theorem Ev.tup (st : Stb l S) {ta : TA} (h : Eva S (AD l P n) ta σ) (hn : n ≤ 100000 := by decide) : Ev S (TD l P n) (tTup ta) σ := fun H Q s q => by
  refine h H _ s fun xs H1 e1 p1 => ?_
  obtain ⟨ds, h1, h2, h3⟩ := p1
  refine ⟨by rw [h1.len, sizeLine_eq]; omega, fun p hp => ?_⟩
  have np := st.new H1 p (st.keep _ _ s e1) hp
  have e2 := same_new' (o := .tup xs) hp
  exact q _ _ (e1.trans e2) ⟨p, xs, ds, rfl, offs_of np upd_same, h1.to (offs_mono e2), h2, h3⟩
theorem Ev.cat (st : Stb l S) {ta tb : TE} (h : Ev S (LD l P n) ta σ) (h' : Ev S (LD l P n') tb σ) (hn : n + n' ≤ 100000 := by decide) : Ev S (LD l P (n + n')) (tOp rCat ta tb) σ := fun H Q s q => by
  refine h H _ s fun x H1 e1 p1 => h' H1 _ (st.keep _ _ s e1) fun y H2 e2 p2 => ?_
  obtain ⟨p, vs, ds, rfl, a1, a2, a3, a4⟩ := p1.same e2
  obtain ⟨p', vs', ds', rfl, b1, b2, b3, b4⟩ := p2
  have h1 := a2.len
  have h2 := b2.len
  refine ⟨p, p', vs, vs', rfl, rfl, (offs_at a1).2, (offs_at b1).2, by rw [sizeLine_eq]; omega, fun r hr => ?_⟩
  have s2 := st.keep _ _ s (e1.trans e2)
  have nr := st.new H2 r s2 hr
  have e3 := same_new' (o := .lst (vs ++ vs')) hr
  exact q _ _ ((e1.trans e2).trans e3) ⟨r, _, ds ++ ds', rfl, offs_of nr upd_same, (a2.app b2).to (offs_mono e3), fun d hd => (List.mem_append.mp hd).elim (a3 d) (b3 d), by rw [List.length_append]; omega⟩
theorem Ev.catT (st : Stb l S) {ta tb : TE} (h : Ev S (TD l P n) ta σ) (h' : Ev S (TD l P n') tb σ) (hn : n + n' ≤ 100000 := by decide) : Ev S (TD l P (n + n')) (tOp (rCatA K) ta tb) σ := fun H Q s q => by
  refine h H _ s fun x H1 e1 p1 => h' H1 _ (st.keep _ _ s e1) fun y H2 e2 p2 => ?_
  obtain ⟨p, vs, ds, rfl, a1, a2, a3, a4⟩ := p1
  have a1 := offs_mono (l := l) e2 _ _ a1
  have a2 := a2.to (offs_mono e2)
  obtain ⟨p', vs', ds', rfl, b1, b2, b3, b4⟩ := p2
  have h1 := a2.len
  have h2 := b2.len
  refine ⟨p, p', vs, vs', rfl, rfl, .inl (.inl (offs_at a1).2), .inl (.inl (offs_at b1).2), by rw [sizeLine_eq]; omega, fun _ => ?_, fun _ _ => ?_, fun _ _ r hr => ?_⟩
  · exact q _ _ (e1.trans e2) ⟨p', vs', ds', rfl, b1, b2, b3, by omega⟩
  · exact q _ _ (e1.trans e2) ⟨p, vs, ds, rfl, a1, a2, a3, by omega⟩
  · have s2 := st.keep _ _ s (e1.trans e2)
    have nr := st.new H2 r s2 hr
    have e3 := same_new' (o := .tup (vs ++ vs')) hr
    exact q _ _ ((e1.trans e2).trans e3) ⟨r, _, ds ++ ds', rfl, offs_of nr upd_same, (a2.app b2).to (offs_mono e3), fun d hd => (List.mem_append.mp hd).elim (a3 d) (b3 d), by rw [List.length_append]; omega⟩
theorem DtAll.drop {H : Hp} : ∀ (i : Nat) {vs : List V} {ds : List PyData}, DtAll H vs ds → DtAll H (vs.drop i) (ds.drop i)
  | 0, _, _, h => h
  | _ + 1, _, _, .nil => .nil
  | i + 1, _, _, .cons _ r => DtAll.drop i r
theorem DtAll.take {H : Hp} : ∀ (i : Nat) {vs : List V} {ds : List PyData}, DtAll H vs ds → DtAll H (vs.take i) (ds.take i)
  | 0, _, _, _ => .nil
  | _ + 1, _, _, .nil => .nil
  | i + 1, _, _, .cons h r => .cons h (DtAll.take i r)
theorem cut_data {H : Hp} {vs : List V} {ds : List PyData} (h : DtAll H vs ds) (lo hi : Option Int) : ∃ es : List PyData, DtAll H (cutV vs lo hi) es ∧ (∀ d ∈ es, d ∈ ds) ∧ es.length ≤ ds.length := by
  unfold cutV
  refine ⟨_, DtAll.take _ (DtAll.drop _ h), fun d hd => List.mem_of_mem_drop (List.mem_of_mem_take hd), ?_⟩
  rw [List.length_take, List.length_drop]
  omega
theorem Ev.cut (st : Stb l S) {te : TE} {lo hi : TO} (h : Ev S (LD l P n) te σ) (h1 : Evo S lo σ) (h2 : Evo S hi σ) : Ev S (LD l P n) (L2.tSl (rSlL K) te lo hi) σ := fun H Q s q => by
  refine h H _ s fun x H1 e1 p1 => h1 H1 _ (st.keep _ _ s e1) fun i H2 e2 => h2 H2 _ (st.keep _ _ s (e1.trans e2)) fun j H3 e3 => ?_
  obtain ⟨p, vs, ds, rfl, a1, a2, a3, a4⟩ := p1.same (e2.trans e3)
  refine ⟨p, vs, rfl, .inl (.inl (offs_at a1).2), fun r hr => ?_⟩
  have e4 := e1.trans (e2.trans e3)
  have nr := st.new H3 r (st.keep _ _ s e4) hr
  have e5 := same_new' (o := .lst (cutV vs i j)) hr
  obtain ⟨es, c1, c2, c3⟩ := cut_data a2 i j
  exact q _ _ (e4.trans e5) ⟨r, _, es, rfl, offs_of nr upd_same, c1.to (offs_mono e5), fun d hd => a3 d (c2 d hd), by omega⟩
theorem Ev.cutT (st : Stb l S) {te : TE} {lo hi : TO} (h : Ev S (TD l P n) te σ) (h1 : Evo S lo σ) (h2 : Evo S hi σ) : Ev S (TD l P n) (L2.tSl (rSlA K) te lo hi) σ := fun H Q s q => by
  refine h H _ s fun x H1 e1 p1 => h1 H1 _ (st.keep _ _ s e1) fun i H2 e2 => h2 H2 _ (st.keep _ _ s (e1.trans e2)) fun j H3 e3 => ?_
  obtain ⟨p, vs, ds, rfl, a1, a2, a3, a4⟩ := p1
  have e23 := e2.trans e3
  have a1 := offs_mono (l := l) e23 _ _ a1
  have a2 := a2.to (offs_mono e23)
  have e4 := e1.trans (e2.trans e3)
  refine ⟨p, vs, rfl, .inl (.inl (offs_at a1).2), fun _ => q _ _ e4 ⟨p, vs, ds, rfl, a1, a2, a3, a4⟩, fun _ r hr => ?_⟩
  have nr := st.new H3 r (st.keep _ _ s e4) hr
  have e5 := same_new' (o := .tup (cutV vs i j)) hr
  obtain ⟨es, c1, c2, c3⟩ := cut_data a2 i j
  exact q _ _ (e4.trans e5) ⟨r, _, es, rfl, offs_of nr upd_same, c1.to (offs_mono e5), fun d hd => a3 d (c2 d hd), by omega⟩
theorem Evo.no : Evo S tNoPart σ := fun H Q _ q => q _ H (Same.refl H)
/-- an int -/
def I : Fi := fun x _ => ∃ i : Int, x = .int i
theorem Ev.intI (i : Int) : Ev S I (tC (.int i)) σ := fun H Q _ q => q _ H (Same.refl H) ⟨i, rfl⟩
theorem Ev.varI {i : Nat} {j : Int} (h : σ[i]? = some (some (.int j))) : Ev S I (tVar i) σ := fun H Q s q => ⟨_, h, q _ H (Same.refl H) ⟨j, rfl⟩⟩
theorem Evo.some {te : TE} (h : Ev S I te σ) : Evo S (tPart te) σ := fun H Q s q => h H _ s fun x H1 e1 p => by
  obtain ⟨i, rfl⟩ := p
  exact ⟨i, rfl, q _ H1 e1⟩
theorem Ev.listL (st : Stb l S) {te : TE} (h : Ev S (LD l P n) te σ) : Ev S (LD l P n) (tCB (rListK K) (tCons te tNil)) σ := fun H Q s q => by
  refine h H _ s fun x H1 e1 p1 => ?_
  obtain ⟨p, vs, ds, rfl, a1, a2, a3, a4⟩ := p1
  refine ⟨p, vs, rfl, .inl (.inl (.inl (offs_at a1).2)), fun r hr => ?_⟩
  have nr := st.new H1 r (st.keep _ _ s e1) hr
  have e5 := same_new' (o := .lst vs) hr
  exact q _ _ (e1.trans e5) ⟨r, _, ds, rfl, offs_of nr upd_same, a2.to (offs_mono e5), a3, a4⟩
theorem Ev.listT (st : Stb l S) {te : TE} (h : Ev S (TD l P n) te σ) : Ev S (LD l P n) (tCB (rListK K) (tCons te tNil)) σ := fun H Q s q => by
  refine h H _ s fun x H1 e1 p1 => ?_
  obtain ⟨p, vs, ds, rfl, a1, a2, a3, a4⟩ := p1
  refine ⟨p, vs, rfl, .inr (.inl (.inl (offs_at a1).2)), fun r hr => ?_⟩
  have nr := st.new H1 r (st.keep _ _ s e1) hr
  have e5 := same_new' (o := .lst vs) hr
  exact q _ _ (e1.trans e5) ⟨r, _, ds, rfl, offs_of nr upd_same, a2.to (offs_mono e5), a3, a4⟩
theorem Ev.tupL (st : Stb l S) {te : TE} (h : Ev S (LD l P n) te σ) : Ev S (TD l P n) (tCB (rTupK K) (tCons te tNil)) σ := fun H Q s q => by
  refine h H _ s fun x H1 e1 p1 => ?_
  obtain ⟨p, vs, ds, rfl, a1, a2, a3, a4⟩ := p1
  refine ⟨p, vs, rfl, .inl ⟨.inl (.inl (offs_at a1).2), fun r hr => ?_⟩⟩
  have nr := st.new H1 r (st.keep _ _ s e1) hr
  have e5 := same_new' (o := .tup vs) hr
  exact q _ _ (e1.trans e5) ⟨r, _, ds, rfl, offs_of nr upd_same, a2.to (offs_mono e5), a3, a4⟩
theorem Ev.len {te : TE} (h : Ev S (LD l (Bnd k b) n) te σ) (hn : n ≤ 100000 := by decide) : Ev S (D l (Bnd k' b')) (tCB (rLenK K) (tCons te tNil)) σ := fun H Q s q => by
  refine h H _ s fun x H1 e1 p1 => ?_
  obtain ⟨p, vs, ds, rfl, a1, a2, a3, a4⟩ := p1
  have := a2.len
  exact ⟨p, vs, rfl, .inl (.inl (.inl (offs_at a1).2)), q _ _ e1 ⟨_, .int _, .int (by omega)⟩⟩
theorem Ev.rep (st : Stb l S) {ta : TE} {j : Nat} (h : Ev S (LD l P n) ta σ) (hj : n * j ≤ 100000 := by decide) (hj2 : j ≤ 1000 := by decide) : Ev S (LD l P (n * j)) (tOp rRep ta (tC (.int (j : Int)))) σ := fun H Q s q => by
  refine h H _ s fun x H1 e1 p1 => ?_
  obtain ⟨p, vs, ds, rfl, a1, a2, a3, a4⟩ := p1
  have hl := a2.len
  have hm : ds.length * j ≤ n * j := Nat.mul_le_mul_right j a4
  refine ⟨p, j, vs, rfl, rfl, (offs_at a1).2, by omega, by omega, by rw [hl, Int.toNat_natCast, sizeLine_eq]; omega, fun r hr => ?_⟩
  have nr := st.new H1 r (st.keep _ _ s e1) hr
  have e5 := same_new' (o := .lst (List.replicate (j : Int).toNat vs).flatten) hr
  have key : ∀ m : Nat, DtAll (offs l H1) (List.replicate m vs).flatten (List.replicate m ds).flatten := by
    intro m
    induction m with
    | zero => exact .nil
    | succ m ih =>
      rw [List.replicate_succ, List.replicate_succ, List.flatten_cons, List.flatten_cons]
      exact a2.app ih
  refine q _ _ (e1.trans e5) ⟨r, _, (List.replicate j ds).flatten, rfl, offs_of nr upd_same, ?_, fun d hd => ?_, ?_⟩
  · rw [Int.toNat_natCast]
    exact (key j).to (offs_mono (by rw [Int.toNat_natCast] at e5; exact e5))
  · obtain ⟨m, hm1, hm2⟩ := List.mem_flatten.mp hd
    rw [List.eq_of_mem_replicate hm1] at hm2
    exact a3 d hm2
  · rw [List.length_flatten, List.map_replicate, List.sum_replicate_nat, Nat.mul_comm]
    exact hm
end
end Hw
namespace Hw
open PySem PySem.Spec PyProof.Rows L2
/-! ### statements, read one by one -/
def iAt (J : It) : TI := fun _ H R => R J H
section
variable {K : PySem.W.Frag} {te : TE} {g : TG} {tb t u : TS} {d : Ends} {σ : L2.St} {H : Hp} {i : Nat}
theorem forL (h : te σ H fun x H1 => ∃ a, x = .ref a ∧ (∃ xs, SqL K H1 a xs) ∧ tFor (iAt (Itl K a)) g tb d σ H1) : tFor (iList K te) g tb d σ H := h
theorem seqL (h : t { d with nx := u d } σ H) : tSeq t u d σ H := h
theorem setL (h : te σ H fun x H1 => d.nx (σ.set i (some x)) H1) : tAsg te (gName i) d σ H := h
theorem setNil (h : ∀ p, H p = none → d.nx (σ.set i (some (.ref p))) (upd H p (.lst []))) : tAsg (tLst tNil) (gName i) d σ H := ⟨Nat.zero_le _, h⟩
theorem retL (h : te σ H d.rt) : tRet te d σ H := h
end
end Hw
namespace Hw
open PySem PySem.Spec PyProof.Rows L2
section
variable {X : Cx} {K : PySem.W.Frag}
theorem pi_enumK {e : Expr} {ta : TA} {p pos tpos : Pos} {elts : List Expr} {kk : Nat} (h : X.K = K) (hg : Gl X "enumerate") (hm : X.mg "enumerate" = none) (ha : PA X [e] ta) (hs : starEach [e] X.env = [(false, eval e X.env)] := by rfl) :
    PI X (.Tuple elts kk tpos) (.Call (.Name "enumerate" p) [e] [] pos) (iEnum K ta) := by
  subst h
  exact pi_enum hg hm ha hs
theorem pi_listK {tg : Expr} {l : Expr} {tl : TE} (h : X.K = K) (hl : PE X l tl) : PI X tg l (iList K tl) := by
  subst h
  exact pi_list hl
end
end Hw
namespace Hw
open PySem PySem.Spec PyProof.Rows L2
/-! ### literals, told exactly -/
def Ed (d : PyData) : Fi := fun x H => Dt H x d
def Eda (ds : List PyData) : List V → Hp → Prop := fun xs H => DtAll H xs ds
abbrev Tr : Hp → Prop := fun _ => True
section
variable {σ : L2.St} {ds : List PyData} {d : PyData} {te : TE} {ta : TA} {i j : Nat} {e : Ends} {H : Hp}
theorem Ev.eint (i : Int) : Ev Tr (Ed (.int i)) (tC (.int i)) σ := fun H Q _ q => q _ H (Same.refl H) (.int i)
theorem Ev.ebl (b : Bool) : Ev Tr (Ed (.bool b)) (tC (.bl b)) σ := fun H Q _ q => q _ H (Same.refl H) (.bl b)
theorem Ev.estr (x : Str) : Ev Tr (Ed (.str x)) (tC (.str x)) σ := fun H Q _ q => q _ H (Same.refl H) (.str x)
theorem Ev.enon : Ev Tr (Ed .none) (tC .non) σ := fun H Q _ q => q _ H (Same.refl H) .non
theorem Eva.enil : Eva Tr (Eda []) tNil σ := fun H Q _ q => q _ H (Same.refl H) .nil
theorem Eva.econs (h : Ev Tr (Ed d) te σ) (r : Eva Tr (Eda ds) ta σ) : Eva Tr (Eda (d :: ds)) (tCons te ta) σ := fun H Q s q => h H _ s fun x H1 e1 p1 => r H1 _ s fun xs H2 e2 p2 => q _ H2 (e1.trans e2) (.cons (Dt.to p1 e2) p2)
theorem Ev.elst (h : Eva Tr (Eda ds) ta σ) (hn : ds.length ≤ 100000 := by decide) : Ev Tr (Ed (.list ds)) (tLst ta) σ := fun H Q s q => h H _ s fun xs H1 e1 p1 => by
  have p1 : DtAll H1 xs ds := p1
  refine ⟨by rw [p1.len, sizeLine_eq]; omega, fun p hp => ?_⟩
  have e2 := same_new' (o := .lst xs) hp
  exact q _ _ (e1.trans e2) (Dt.lst upd_same (p1.to e2))
theorem Ev.etup (h : Eva Tr (Eda ds) ta σ) (hn : ds.length ≤ 100000 := by decide) : Ev Tr (Ed (.tuple ds)) (tTup ta) σ := fun H Q s q => h H _ s fun xs H1 e1 p1 => by
  have p1 : DtAll H1 xs ds := p1
  refine ⟨by rw [p1.len, sizeLine_eq]; omega, fun p hp => ?_⟩
  have e2 := same_new' (o := .tup xs) hp
  exact q _ _ (e1.trans e2) (Dt.tup upd_same (p1.to e2))
theorem parL (h : ta σ H fun vs H1 => ∃ v w, vs = [v, w] ∧ e.nx ((σ.set i (some v)).set j (some w)) H1) : tPar i j ta e σ H := h
theorem Dt.nats_at {x : V} {l : List Nat} (h : Dt H x (.list (natD l))) : ∃ a, x = .ref a ∧ H a = some (.lst (natV l)) := by
  cases h with
  | @lst a xs _ ha hs =>
    have e := DtAll.nats_inv _ _ hs
    subst e
    exact ⟨a, rfl, ha⟩
theorem natV_rep (n x : Nat) : (List.replicate n [V.int (x : Int)]).flatten = natV (List.replicate n x) := by
  unfold natV
  rw [List.map_replicate]
  induction n with
  | zero => rfl
  | succ n ih => rw [List.replicate_succ, List.flatten_cons, ih, List.replicate_succ]; rfl
theorem natV_rep2 (n x y : Nat) : (List.replicate n [V.int (x : Int), .int (y : Int)]).flatten = natV (List.replicate n [x, y]).flatten := by
  unfold natV
  rw [List.map_flatten, List.map_replicate]
  rfl
end
end Hw

set_option Elab.async false
set_option linter.all false
/-! sets of widths: a list ahead and a turn; their plain form -/
namespace Hw
/-- the item at a width -/
def itemW (A T : List Bool) (w : Nat) : Bool := if w < A.length then A.getD w false else T.getD ((w - A.length) % T.length) false
/-- from n on the same at p more -/
def EvP (f : Nat → Bool) (n p : Nat) : Prop := ∀ w, n ≤ w → f (w + p) = f w
theorem EvP.mono {f : Nat → Bool} {n m p : Nat} (h : EvP f n p) (hm : n ≤ m) : EvP f m p := fun w hw => h w (by omega)
theorem EvP.mul {f : Nat → Bool} {n p : Nat} (h : EvP f n p) : ∀ k, EvP f n (p * k)
  | 0, w, _ => by rw [Nat.mul_zero, Nat.add_zero]
  | k + 1, w, hw => by
    rw [Nat.mul_succ, ← Nat.add_assoc, h _ (by omega)]
    exact EvP.mul h k w hw
theorem EvP.rest {f : Nat → Bool} {n p q : Nat} (h : EvP f n p) (h2 : EvP f n q) : EvP f n (q % p) := fun w hw => by
  have e := Nat.div_add_mod q p
  have a := h.mul (q / p) (w + q % p) (by omega)
  have b := h2 w hw
  rw [← a, ← b]
  congr 1
  omega
theorem EvP.gcd {f : Nat → Bool} {n : Nat} (p q : Nat) : EvP f n p → EvP f n q → EvP f n (Nat.gcd p q) := by
  induction p, q using Nat.gcd.induction with
  | H0 q => intro _ h; rw [Nat.gcd_zero_left]; exact h
  | H1 p q _ ih =>
    intro h1 h2
    rw [Nat.gcd_rec]
    exact ih (h1.rest h2) h1
theorem getD_lt {l : List Bool} {i : Nat} (h : i < l.length) : l.getD i false = l[i] := by
  rw [List.getD_eq_getElem?_getD, List.getElem?_eq_getElem h]
  rfl
theorem ext_getD {l m : List Bool} (hl : l.length = m.length) (h : ∀ i, i < l.length → l.getD i false = m.getD i false) : l = m := by
  apply List.ext_getElem hl
  intro i h1 h2
  have := h i h1
  rw [getD_lt h1, getD_lt h2] at this
  exact this
theorem item_lt {A T : List Bool} {w : Nat} (h : w < A.length) : itemW A T w = A.getD w false := if_pos h
theorem item_ge {A T : List Bool} (i : Nat) : itemW A T (A.length + i) = T.getD (i % T.length) false := by
  unfold itemW
  rw [if_neg (by omega), Nat.add_sub_cancel_left]
theorem item_ge' {A T : List Bool} {w : Nat} (h : A.length ≤ w) : itemW A T w = T.getD ((w - A.length) % T.length) false := if_neg (by omega)
theorem evp_item (A T : List Bool) : EvP (itemW A T) A.length T.length := fun w hw => by
  rw [item_ge' hw, item_ge' (by omega), show w + T.length - A.length = (w - A.length) + T.length by omega, Nat.add_mod_right]
/-- the plain form of a set -/
structure PlainOf (f : Nat → Bool) (A T : List Bool) : Prop where
  some : 0 < T.length
  is : ∀ w, itemW A T w = f w
  last : 0 < A.length → A.getD (A.length - 1) false ≠ T.getD (T.length - 1) false
  least : ∀ n p, 0 < p → EvP f n p → T.length ≤ p
theorem PlainOf.per {f : Nat → Bool} {A T : List Bool} (h : PlainOf f A T) : EvP f A.length T.length := fun w hw => by
  rw [← h.is, ← h.is]
  exact evp_item A T w hw
theorem PlainOf.ahead {f : Nat → Bool} {A T A' T' : List Bool} (h : PlainOf f A T) (h' : PlainOf f A' T') (e : T.length = T'.length) : A'.length ≤ A.length := by
  refine Nat.le_of_not_lt fun lt => ?_
  have a := h.per (A'.length - 1) (by omega)
  have b := h'.last (by omega)
  rw [← item_lt (T := T') (show A'.length - 1 < A'.length by omega), h'.is, ← a, ← h'.is, show A'.length - 1 + T.length = A'.length + (T'.length - 1) by have := h.some; omega, item_ge, Nat.mod_eq_of_lt (by have := h'.some; omega)] at b
  exact b rfl
theorem PlainOf.uniq {f : Nat → Bool} {A T A' T' : List Bool} (h : PlainOf f A T) (h' : PlainOf f A' T') : A = A' ∧ T = T' := by
  have e : T.length = T'.length := Nat.le_antisymm (h.least _ _ h'.some h'.per) (h'.least _ _ h.some h.per)
  have ea : A.length = A'.length := Nat.le_antisymm (h'.ahead h e.symm) (h.ahead h' e)
  refine ⟨ext_getD ea fun i hi => ?_, ext_getD e fun i hi => ?_⟩
  · rw [← item_lt (T := T) hi, ← item_lt (T := T') (by omega), h.is, h'.is]
  · have a := item_ge (A := A) (T := T) i
    have b := item_ge (A := A') (T := T') i
    rw [Nat.mod_eq_of_lt hi] at a
    rw [Nat.mod_eq_of_lt (by omega)] at b
    rw [← a, ← b, h.is, h'.is, ea]
/-! the shortest turn -/
/-- a shorter list repeated -/
def Per (T : List Bool) (s : Nat) : Prop := T.length % s = 0 ∧ ∀ i, i < T.length → T.getD i false = T.getD (i % s) false
instance (T : List Bool) (s : Nat) : Decidable (Per T s) := inferInstanceAs (Decidable (_ ∧ _))
theorem Per.all (T : List Bool) : Per T T.length := ⟨Nat.mod_self _, fun i hi => by rw [Nat.mod_eq_of_lt hi]⟩
theorem getD_take {l : List Bool} {n i : Nat} (h : i < n) : (l.take n).getD i false = l.getD i false := by
  rw [List.getD_eq_getElem?_getD, List.getD_eq_getElem?_getD, List.getElem?_take, if_pos h]
theorem getD_drop {l : List Bool} {n i : Nat} : (l.drop n).getD i false = l.getD (n + i) false := by
  rw [List.getD_eq_getElem?_getD, List.getD_eq_getElem?_getD, List.getElem?_drop]
theorem Per.item {A T : List Bool} {s : Nat} (h : Per T s) (hs : 0 < s) (ht : s ≤ T.length) (w : Nat) : itemW A (T.take s) w = itemW A T w := by
  by_cases hw : w < A.length
  · rw [item_lt hw, item_lt hw]
  · have hw : A.length ≤ w := by omega
    rw [item_ge' hw, item_ge' hw, List.length_take, Nat.min_eq_left ht, getD_take (Nat.mod_lt _ hs), h.2 _ (Nat.mod_lt _ (by omega)), Nat.mod_mod_of_dvd _ (Nat.dvd_of_mod_eq_zero h.1)]
/-- a turn that is told by a shorter one for some number, is one by this number's part that goes into it -/
theorem per_of_ev {A T : List Bool} {n p : Nat} (h0 : 0 < T.length) (hp : 0 < p) (h : EvP (itemW A T) n p) : ∃ d, 0 < d ∧ d ≤ p ∧ d ≤ T.length ∧ Per T d := by
  let N := max n A.length
  have e1 : EvP (itemW A T) N p := h.mono (Nat.le_max_left ..)
  have e2 : EvP (itemW A T) N T.length := (evp_item A T).mono (Nat.le_max_right ..)
  have e := EvP.gcd _ _ e1 e2
  have d0 : 0 < Nat.gcd p T.length := Nat.gcd_pos_of_pos_left _ hp
  refine ⟨Nat.gcd p T.length, d0, Nat.gcd_le_left _ hp, Nat.gcd_le_right _ h0, Nat.mod_eq_zero_of_dvd (Nat.gcd_dvd_right ..), fun i hi => ?_⟩
  revert e d0
  generalize Nat.gcd p T.length = d
  intro e d0
  have hN : A.length ≤ N := Nat.le_max_right ..
  have big : N ≤ T.length * N := Nat.le_mul_of_pos_left N h0
  have a := item_ge (A := A) (T := T) (i + T.length * N)
  have b := item_ge (A := A) (T := T) (i % d + T.length * N)
  have il : i % d ≤ i := Nat.mod_le _ _
  rw [Nat.add_mul_mod_self_left, Nat.mod_eq_of_lt hi] at a
  rw [Nat.add_mul_mod_self_left, Nat.mod_eq_of_lt (show i % d < T.length by omega)] at b
  rw [← a, ← b, ← e.mul (i / d) (A.length + (i % d + T.length * N)) (by omega)]
  have := Nat.div_add_mod i d
  congr 1
  omega
/-- the least length of a list that is repeated -/
def leastS (T : List Bool) : Nat := ((List.range' 1 T.length).find? fun s => decide (Per T s)).getD T.length
structure Least (T : List Bool) (s : Nat) : Prop where
  pos : 0 < s
  le : s ≤ T.length
  per : Per T s
  min : ∀ r, 0 < r → r < s → ¬ Per T r
theorem Least.uniq {T : List Bool} {s r : Nat} (h : Least T s) (k : Least T r) : s = r := by
  refine Nat.le_antisymm (Nat.le_of_not_lt fun z => ?_) (Nat.le_of_not_lt fun z => ?_)
  · exact h.min r k.pos z k.per
  · exact k.min s h.pos z h.per
theorem least_ok {T : List Bool} (h : 0 < T.length) : Least T (leastS T) := by
  unfold leastS
  cases e : (List.range' 1 T.length).find? fun s => decide (Per T s) with
  | none =>
    have := List.find?_eq_none.mp e T.length (List.mem_range'_1.mpr (by omega))
    exact absurd (Per.all T) (by simpa using this)
  | some s =>
    obtain ⟨h1, as, bs, h2, h3⟩ := List.find?_eq_some_iff_append.mp e
    have hm : s ∈ List.range' 1 T.length := by rw [h2]; simp
    have hm := List.mem_range'_1.mp hm
    refine ⟨by show 0 < s; omega, by show s ≤ _; omega, by simpa using h1, fun r r0 r1 pr => ?_⟩
    have r1 : r < s := r1
    have hr : r ∈ List.range' 1 T.length := List.mem_range'_1.mpr (by omega)
    rw [h2] at hr
    rcases List.mem_append.mp hr with q | q
    · have := h3 r q
      simp [pr] at this
    · have srt : (as ++ s :: bs).Pairwise (· < ·) := by rw [← h2]; exact List.pairwise_lt_range'
      have := (List.pairwise_append.mp srt).2.1
      rcases List.mem_cons.mp q with z | z
      · omega
      · have := (List.pairwise_cons.mp this).1 r z
        omega
/-- a form that is not yet plain: the end of the list ahead may be moved into the turn -/
structure Half (f : Nat → Bool) (A T : List Bool) : Prop where
  some : 0 < T.length
  is : ∀ w, itemW A T w = f w
  least : ∀ n p, 0 < p → EvP f n p → T.length ≤ p
theorem half_of {A T : List Bool} {s : Nat} (h : Least T s) : Half (itemW A T) A (T.take s) := by
  have e : (T.take s).length = s := by rw [List.length_take, Nat.min_eq_left h.le]
  refine ⟨by rw [e]; exact h.pos, h.per.item h.pos h.le, fun n p hp q => ?_⟩
  obtain ⟨d, d0, d1, d2, d3⟩ := per_of_ev (by have := h.pos; have := h.le; omega) hp q
  rw [e]
  refine Nat.le_trans (Nat.le_of_not_lt fun z => h.min d d0 z d3) d1
theorem item_step (A T : List Bool) (b : Bool) (w : Nat) : itemW (A ++ [b]) (T ++ [b]) w = itemW A (b :: T) w := by
  by_cases h : w < A.length
  · rw [item_lt h, item_lt (by rw [List.length_append]; omega), List.getD_eq_getElem?_getD, List.getElem?_append_left h, ← List.getD_eq_getElem?_getD]
  · by_cases h2 : w = A.length
    · subst h2
      rw [item_lt (by rw [List.length_append]; show _ < _ + 1; omega), show A.length = A.length + 0 from rfl, item_ge (A := A), Nat.zero_mod, List.getD_eq_getElem?_getD, Nat.add_zero, List.getElem?_append_right (Nat.le_refl _), Nat.sub_self]
      rfl
    · obtain ⟨i, rfl⟩ : ∃ i, w = A.length + (i + 1) := ⟨w - A.length - 1, by omega⟩
      have e1 := item_ge (A := A ++ [b]) (T := T ++ [b]) i
      have l1 : (A ++ [b]).length = A.length + 1 := by rw [List.length_append]; rfl
      have l2 : (T ++ [b]).length = T.length + 1 := by rw [List.length_append]; rfl
      rw [l1, show A.length + 1 + i = A.length + (i + 1) by omega, l2] at e1
      rw [e1, item_ge, List.length_cons]
      have hm : i % (T.length + 1) < T.length + 1 := Nat.mod_lt _ (by omega)
      rw [Nat.add_mod i 1]
      by_cases hl : i % (T.length + 1) = T.length
      · rw [hl]
        cases T with
        | nil => rfl
        | cons c T =>
          rw [show 1 % ((c :: T).length + 1) = 1 from Nat.mod_eq_of_lt (by rw [List.length_cons]; omega), Nat.mod_self, List.getD_eq_getElem?_getD, List.getElem?_append_right (Nat.le_refl _), Nat.sub_self]
          rfl
      · cases T with
        | nil => simp only [List.length_nil] at hl hm; omega
        | cons c T =>
          rw [show 1 % ((c :: T).length + 1) = 1 from Nat.mod_eq_of_lt (by rw [List.length_cons]; omega), Nat.mod_eq_of_lt (show i % ((c :: T).length + 1) + 1 < (c :: T).length + 1 by omega), List.getD_eq_getElem?_getD, List.getElem?_append_left (by omega)]
          rw [List.getD_eq_getElem?_getD, List.getElem?_cons_succ]
/-- one step of the law's: the last item of the list ahead, if it is the turn's, goes into the turn -/
def stepW (p : List Bool × List Bool) : List Bool × List Bool :=
  if p.1.length = 0 then p else if p.1.getD (p.1.length - 1) false = p.2.getD (p.2.length - 1) false then (p.1.take (p.1.length - 1), p.2.drop (p.2.length - 1) ++ p.2.take (p.2.length - 1)) else p
def stepsW : Nat → List Bool × List Bool → List Bool × List Bool
  | 0, p => p
  | n + 1, p => stepsW n (stepW p)
def plainF (A T : List Bool) : List Bool × List Bool := stepsW A.length (A, T.take (leastS T))
theorem take_last {l : List Bool} (h : 0 < l.length) : l = l.take (l.length - 1) ++ [l.getD (l.length - 1) false] := by
  have e := List.take_append_drop (l.length - 1) l
  have d : l.drop (l.length - 1) = [l.getD (l.length - 1) false] := by
    apply ext_getD
    · rw [List.length_drop]; show _ = 1; omega
    · intro i hi
      rw [List.length_drop] at hi
      have : i = 0 := by omega
      subst this
      rw [getD_drop]
      rfl
  rw [← d]
  exact e.symm
theorem Half.step {f : Nat → Bool} {p : List Bool × List Bool} (h : Half f p.1 p.2) : Half f (stepW p).1 (stepW p).2 := by
  unfold stepW
  by_cases h0 : p.1.length = 0
  · rw [if_pos h0]; exact h
  rw [if_neg h0]
  by_cases h1 : p.1.getD (p.1.length - 1) false = p.2.getD (p.2.length - 1) false
  · rw [if_pos h1]
    obtain ⟨A, T⟩ := p
    have hs := h.some
    have ha := take_last (l := A) (by show 0 < A.length; exact Nat.pos_of_ne_zero h0)
    have ht := take_last (l := T) hs
    have hd : T.drop (T.length - 1) = [T.getD (T.length - 1) false] := by
      have e := List.take_append_drop (T.length - 1) T
      exact List.append_cancel_left (e.trans ht)
    have is := h.is
    simp only at h1 ha ht is hs ⊢
    have ll : (T.drop (T.length - 1) ++ T.take (T.length - 1)).length = T.length := by
      rw [List.length_append, List.length_drop, List.length_take]; omega
    refine ⟨by rw [ll]; exact hs, fun w => ?_, fun n q hq e => by rw [ll]; exact h.least n q hq e⟩
    rw [← is w, hd, List.singleton_append]
    rw [← item_step, ← ht, ← h1, ← ha]
  · rw [if_neg h1]; exact h
theorem Half.steps {f : Nat → Bool} : ∀ (n : Nat) {p : List Bool × List Bool}, Half f p.1 p.2 → Half f (stepsW n p).1 (stepsW n p).2
  | 0, _, h => h
  | n + 1, _, h => Half.steps n h.step
/-- the steps are at their end -/
def Done (p : List Bool × List Bool) : Prop := 0 < p.1.length → p.1.getD (p.1.length - 1) false ≠ p.2.getD (p.2.length - 1) false
theorem stepW_done {p : List Bool × List Bool} (h : Done p) : stepW p = p := by
  unfold stepW
  by_cases h0 : p.1.length = 0
  · rw [if_pos h0]
  · rw [if_neg h0, if_neg (h (by omega))]
theorem stepsW_done : ∀ (n : Nat) {p : List Bool × List Bool}, Done p → stepsW n p = p
  | 0, _, _ => rfl
  | n + 1, p, h => by
    show stepsW n (stepW p) = p
    rw [stepW_done h]
    exact stepsW_done n h
theorem steps_end : ∀ (n : Nat) (p : List Bool × List Bool), p.1.length ≤ n → Done (stepsW n p)
  | 0, p, h => fun z => by
    have z : 0 < p.1.length := z
    omega
  | n + 1, p, h => by
    by_cases hd : Done p
    · rw [stepsW_done _ hd]; exact hd
    · refine steps_end n (stepW p) ?_
      have h0 : ¬ p.1.length = 0 := fun z => hd fun y => by omega
      have h1 : p.1.getD (p.1.length - 1) false = p.2.getD (p.2.length - 1) false := Decidable.byContradiction fun z => hd fun _ => z
      unfold stepW
      rw [if_neg h0, if_pos h1]
      show (p.1.take (p.1.length - 1)).length ≤ n
      rw [List.length_take]
      omega
theorem plainF_ok {A T : List Bool} (h : 0 < T.length) : PlainOf (itemW A T) (plainF A T).1 (plainF A T).2 := by
  have l := least_ok h
  have k : Half (itemW A T) (plainF A T).1 (plainF A T).2 := Half.steps A.length (half_of (A := A) l)
  exact ⟨k.some, k.is, steps_end A.length _ (Nat.le_refl _), k.least⟩
theorem plainF_of {A T A' T' : List Bool} (h : 0 < T.length) (k : PlainOf (itemW A T) A' T') : plainF A T = (A', T') := by
  obtain ⟨a, b⟩ := (plainF_ok h).uniq k
  exact Prod.ext a b
theorem plainF_congr {A T A' T' : List Bool} (h : 0 < T.length) (h' : 0 < T'.length) (e : ∀ w, itemW A T w = itemW A' T' w) : plainF A T = plainF A' T' := by
  have q := plainF_ok (A := A') h'
  rw [← funext e] at q
  exact plainF_of h q
theorem plainF_item {A T : List Bool} (h : 0 < T.length) (w : Nat) : itemW (plainF A T).1 (plainF A T).2 w = itemW A T w := (plainF_ok h).is w
theorem plainF_pos {A T : List Bool} (h : 0 < T.length) : 0 < (plainF A T).2.length := (plainF_ok h).some
theorem plainF_twice {A T : List Bool} (h : 0 < T.length) : plainF (plainF A T).1 (plainF A T).2 = plainF A T := plainF_congr (plainF_pos h) h (plainF_item h)
theorem stepW_len (p : List Bool × List Bool) : (stepW p).1.length ≤ p.1.length ∧ (stepW p).2.length = p.2.length := by
  unfold stepW
  split
  · exact ⟨Nat.le_refl _, rfl⟩
  split
  · refine ⟨?_, ?_⟩
    · show (p.1.take _).length ≤ _
      rw [List.length_take]; omega
    · show (p.2.drop _ ++ p.2.take _).length = _
      rw [List.length_append, List.length_drop, List.length_take]; omega
  · exact ⟨Nat.le_refl _, rfl⟩
theorem stepsW_len : ∀ (n : Nat) (p : List Bool × List Bool), (stepsW n p).1.length ≤ p.1.length ∧ (stepsW n p).2.length = p.2.length
  | 0, _ => ⟨Nat.le_refl _, rfl⟩
  | n + 1, p => by
    obtain ⟨a, b⟩ := stepW_len p
    obtain ⟨c, d⟩ := stepsW_len n (stepW p)
    exact ⟨Nat.le_trans c a, d.trans b⟩
theorem plainF_len (A T : List Bool) : (plainF A T).1.length ≤ A.length ∧ (plainF A T).2.length ≤ T.length := by
  obtain ⟨a, b⟩ := stepsW_len A.length (A, T.take (leastS T))
  refine ⟨a, ?_⟩
  show (stepsW A.length (A, T.take (leastS T))).2.length ≤ _
  rw [b]
  show (T.take _).length ≤ _
  rw [List.length_take]; omega
/-! the program's way: how many items are moved, then all at once -/
theorem rot_getD {T : List Bool} {b i : Nat} (hb : b ≤ T.length) (hi : i < T.length) : (T.drop b ++ T.take b).getD i false = T.getD ((b + i) % T.length) false := by
  by_cases h : i < T.length - b
  · rw [List.getD_eq_getElem?_getD, List.getElem?_append_left (by rw [List.length_drop]; exact h), ← List.getD_eq_getElem?_getD, getD_drop, Nat.mod_eq_of_lt (by omega)]
  · rw [List.getD_eq_getElem?_getD, List.getElem?_append_right (by rw [List.length_drop]; omega), ← List.getD_eq_getElem?_getD, List.length_drop, getD_take (by omega), show b + i = (i - (T.length - b)) + T.length by omega, Nat.add_mod_right, Nat.mod_eq_of_lt (by omega)]
theorem moved {f : Nat → Bool} {A T : List Bool} {l : Nat} (h : Half f A T) (hl : l ≤ A.length) (same : ∀ j, j < l → A.getD (A.length - 1 - j) false = T.getD (T.length - 1 - j % T.length) false)
    (stop : l < A.length → A.getD (A.length - 1 - l) false ≠ T.getD (T.length - 1 - l % T.length) false) :
    PlainOf f (A.take (A.length - l)) (T.drop (T.length - l % T.length) ++ T.take (T.length - l % T.length)) := by
  have m0 := h.some
  have lm := Nat.mod_lt l m0
  have len : (T.drop (T.length - l % T.length) ++ T.take (T.length - l % T.length)).length = T.length := by
    rw [List.length_append, List.length_drop, List.length_take]; omega
  have la : (A.take (A.length - l)).length = A.length - l := by rw [List.length_take]; omega
  have ql := Nat.div_add_mod l T.length
  refine ⟨by rw [len]; exact m0, fun w => ?_, fun h0 => ?_, fun n p hp e => by rw [len]; exact h.least n p hp e⟩
  · rw [← h.is w]
    by_cases w1 : w < A.length - l
    · rw [item_lt (by rw [la]; exact w1), getD_take w1, item_lt (by omega)]
    · rw [item_ge' (by rw [la]; omega), la, len, rot_getD (by omega) (Nat.mod_lt _ m0), Nat.add_mod_mod]
      by_cases w2 : w < A.length
      · rw [item_lt w2]
        obtain ⟨j, rfl⟩ : ∃ j, w = A.length - 1 - j := ⟨A.length - 1 - w, by omega⟩
        by_cases jz : A.length - 1 < j
        · obtain ⟨j', h1, h2⟩ : ∃ j', j' = A.length - 1 ∧ A.length - 1 - j = A.length - 1 - j' := ⟨A.length - 1, rfl, by omega⟩
          rw [h2] at w1 w2 ⊢
          have hj : j' < l := by omega
          rw [same j' hj]
          congr 1
          have qj := Nat.div_add_mod j' T.length
          have mj := Nat.mod_lt j' m0
          have le : j' / T.length ≤ l / T.length := Nat.div_le_div_right (by omega)
          have e : T.length - l % T.length + (A.length - 1 - j' - (A.length - l)) = (T.length - 1 - j' % T.length) + T.length * (l / T.length - j' / T.length) := by
            rw [Nat.mul_sub]
            have := Nat.mul_le_mul_left T.length le
            omega
          rw [e, Nat.add_mul_mod_self_left, Nat.mod_eq_of_lt (by omega)]
        · have hj : j < l := by omega
          rw [same j hj]
          congr 1
          have qj := Nat.div_add_mod j T.length
          have mj := Nat.mod_lt j m0
          have le : j / T.length ≤ l / T.length := Nat.div_le_div_right (by omega)
          have e : T.length - l % T.length + (A.length - 1 - j - (A.length - l)) = (T.length - 1 - j % T.length) + T.length * (l / T.length - j / T.length) := by
            rw [Nat.mul_sub]
            have := Nat.mul_le_mul_left T.length le
            omega
          rw [e, Nat.add_mul_mod_self_left, Nat.mod_eq_of_lt (by omega)]
      · rw [item_ge' (by omega)]
        congr 1
        have e : T.length - l % T.length + (w - (A.length - l)) = (w - A.length) + T.length * (l / T.length + 1) := by
          rw [Nat.mul_succ]
          omega
        rw [e, Nat.add_mul_mod_self_left]
  · rw [la] at h0 ⊢
    rw [len, getD_take (by omega), rot_getD (by omega) (by omega)]
    have s := stop (by omega)
    rw [show T.length - l % T.length + (T.length - 1) = (T.length - 1 - l % T.length) + T.length by omega, Nat.add_mod_right, Nat.mod_eq_of_lt (by omega)]
    rw [show A.length - l - 1 = A.length - 1 - l by omega]
    exact s
/-- the two ways to ask whether a shorter list is repeated -/
theorem per_iff {T : List Bool} {s : Nat} (hs : 0 < s) (hl : s ≤ T.length) : Per T s ↔ T.length % s = 0 ∧ T.drop s = T.take (T.length - s) := by
  refine and_congr_right fun hd => ⟨fun h => ?_, fun h => ?_⟩
  · apply ext_getD
    · rw [List.length_drop, List.length_take]; omega
    · intro i hi
      rw [List.length_drop] at hi
      rw [getD_drop, getD_take hi, h _ (by omega), h i (by omega), Nat.add_mod_left]
  · intro i
    induction i using Nat.strongRecOn with
    | _ i ih =>
      intro hi
      by_cases h1 : i < s
      · rw [Nat.mod_eq_of_lt h1]
      · have e : (T.drop s).getD (i - s) false = (T.take (T.length - s)).getD (i - s) false := by rw [h]
        rw [getD_drop, getD_take (by omega), show s + (i - s) = i by omega] at e
        rw [e, ih (i - s) (by omega) (by omega), Nat.mod_eq_sub_mod (show s ≤ i by omega)]
theorem getD_rep {T : List Bool} : ∀ (k i : Nat), i < k * T.length → (List.replicate k T).flatten.getD i false = T.getD (i % T.length) false
  | 0, i, h => by omega
  | k + 1, i, h => by
    rw [List.replicate_succ, List.flatten_cons]
    by_cases h1 : i < T.length
    · rw [List.getD_eq_getElem?_getD, List.getElem?_append_left h1, ← List.getD_eq_getElem?_getD, Nat.mod_eq_of_lt h1]
    · rw [List.getD_eq_getElem?_getD, List.getElem?_append_right (by omega), ← List.getD_eq_getElem?_getD, getD_rep k (i - T.length) (by rw [Nat.succ_mul] at h; omega), ← Nat.mod_eq_sub_mod (by omega)]
theorem len_rep {T : List Bool} (k : Nat) : (List.replicate k T).flatten.length = k * T.length := by
  rw [List.length_flatten, List.map_replicate, List.sum_replicate_nat]
theorem per_iff_rep {T : List Bool} {s : Nat} (hs : 0 < s) (hl : s ≤ T.length) (hd : T.length % s = 0) : Per T s ↔ T = (List.replicate (T.length / s) (T.take s)).flatten := by
  have lt : (T.take s).length = s := by rw [List.length_take]; omega
  have e : T.length / s * s = T.length := Nat.div_mul_cancel (Nat.dvd_of_mod_eq_zero hd)
  have g : ∀ i, i < T.length → (List.replicate (T.length / s) (T.take s)).flatten.getD i false = T.getD (i % s) false := fun i hi => by
    rw [getD_rep _ _ (by rw [lt, e]; exact hi), lt, getD_take (Nat.mod_lt _ hs)]
  refine ⟨fun h => ?_, fun h => ⟨hd, fun i hi => ?_⟩⟩
  · apply ext_getD
    · rw [len_rep, lt, e]
    · intro i hi
      rw [h.2 i hi, g i hi]
  · rw [← g i hi, ← h]
theorem item_rep {A T : List Bool} {k : Nat} (hk : 0 < k) (h : 0 < T.length) (w : Nat) : itemW A (List.replicate k T).flatten w = itemW A T w := by
  by_cases hw : w < A.length
  · rw [item_lt hw, item_lt hw]
  · have hw : A.length ≤ w := by omega
    have p : 0 < k * T.length := Nat.mul_pos hk h
    rw [item_ge' hw, item_ge' hw, len_rep, getD_rep _ _ (Nat.mod_lt _ p), Nat.mod_mod_of_dvd _ (Nat.dvd_mul_left ..)]
/-- what the law puts longer -/
def longW (p : List Bool × List Bool) : List Bool × List Bool := (p.1 ++ p.2.take 1, p.2.drop 1 ++ p.2.take 1)
theorem longW_item (p : List Bool × List Bool) (h : 0 < p.2.length) (w : Nat) : itemW (longW p).1 (longW p).2 w = itemW p.1 p.2 w := by
  obtain ⟨A, T⟩ := p
  cases T with
  | nil => cases h
  | cons b T => exact item_step A T b w
theorem longW_len (p : List Bool × List Bool) (h : 0 < p.2.length) : (longW p).1.length = p.1.length + 1 ∧ (longW p).2.length = p.2.length := by
  obtain ⟨A, T⟩ := p
  cases T with
  | nil => cases h
  | cons b T => simp [longW]
end Hw
namespace Hw
theorem least_first {T : List Bool} (h : 0 < T.length) : ((List.range' 1 T.length).filter fun s => decide (Per T s))[0]? = some (leastS T) := by
  have e : ((List.range' 1 T.length).filter fun s => decide (Per T s))[0]? = (List.range' 1 T.length).find? fun s => decide (Per T s) := by
    rw [← List.head?_filter]
    cases (List.range' 1 T.length).filter fun s => decide (Per T s) <;> rfl
  rw [e]
  unfold leastS
  cases z : (List.range' 1 T.length).find? fun s => decide (Per T s) with
  | none =>
    have := List.find?_eq_none.mp z T.length (List.mem_range'_1.mpr (by omega))
    exact absurd (Per.all T) (by simpa using this)
  | some s => rfl
theorem stepsW_last : ∀ (n : Nat) (p : List Bool × List Bool), stepsW (n + 1) p = stepW (stepsW n p)
  | 0, _ => rfl
  | n + 1, p => stepsW_last n (stepW p)
theorem stepsW_nil : ∀ (n : Nat) (p : List Bool × List Bool), p.1 = [] → stepsW n p = p
  | 0, _, _ => rfl
  | n + 1, p, h => by
    have e : stepW p = p := by unfold stepW; rw [if_pos (by rw [h]; rfl)]
    show stepsW n (stepW p) = p
    rw [e]
    exact stepsW_nil n p h
theorem stepsW_add : ∀ (m n : Nat) (p : List Bool × List Bool), stepsW (m + n) p = stepsW n (stepsW m p)
  | 0, n, p => by rw [Nat.zero_add]; rfl
  | m + 1, n, p => by
    rw [show m + 1 + n = (m + n) + 1 by omega]
    exact stepsW_add m n (stepW p)
theorem range'_snoc (n : Nat) : List.range' 1 (n + 1) = List.range' 1 n ++ [n + 1] := by
  rw [List.range'_1_concat, Nat.add_comm]
end Hw

set_option Elab.async false
set_option linter.all false
set_option maxRecDepth 100000
set_option maxHeartbeats 4000000
/-! lists of Booleans, sets of widths as data; repr of data with dicts in it -/
namespace Hw
open PySem PySem.Spec PyProof.Rows L2
abbrev blV (l : List Bool) : List V := l.map V.bl
abbrev blD (l : List Bool) : List PyData := l.map PyData.bool
abbrev wdD (A T : List Bool) : PyData := .tuple [.list (blD A), .list (blD T)]
theorem Dt.bls_at {H : Hp} {x : V} {l : List Bool} (h : Dt H x (.list (blD l))) : ∃ a, x = .ref a ∧ H a = some (.lst (blV l)) := by
  cases h with
  | @lst a xs _ ha hs =>
    have e := DtAll.bls_inv _ _ hs
    subst e
    exact ⟨a, rfl, ha⟩
theorem Dt.wd {H : Hp} {x : V} {A T : List Bool} (h : Dt H x (wdD A T)) : ∃ a p q, x = .ref a ∧ H a = some (.tup [.ref p, .ref q]) ∧ H p = some (.lst (blV A)) ∧ H q = some (.lst (blV T)) := by
  cases h with
  | @tup a xs ds ha hs =>
  cases hs with
  | cons h1 hs =>
  cases hs with
  | cons h2 hs =>
  cases hs with
  | nil =>
  obtain ⟨p, rfl, hp⟩ := h1.bls_at
  obtain ⟨q, rfl, hq⟩ := h2.bls_at
  exact ⟨a, p, q, rfl, ha, hp, hq⟩
theorem Dt.bls {H : Hp} {a : Addr} {l : List Bool} (h : H a = some (.lst (blV l))) : Dt H (.ref a) (.list (blD l)) := .lst h (DtAll.bls l)
theorem Dt.wd_of {H : Hp} {a p q : Addr} {A T : List Bool} (ha : H a = some (.tup [.ref p, .ref q])) (hp : H p = some (.lst (blV A))) (hq : H q = some (.lst (blV T))) : Dt H (.ref a) (wdD A T) :=
  .tup ha (.cons (.bls hp) (.cons (.bls hq) .nil))
theorem bl_at {l : List Bool} {i : Nat} (h : i < l.length) : (blV l)[i]? = some (.bl (l.getD i false)) := by
  rw [List.getElem?_map, List.getElem?_eq_getElem h, getD_lt h]
  rfl
theorem bl_get {l : List Bool} {i : Nat} {x : V} (h : (blV l)[i]? = some x) : i < l.length ∧ x = .bl (l.getD i false) := by
  have hi : i < l.length := by
    have := (List.getElem?_eq_some_iff.mp h).1
    rwa [List.length_map] at this
  rw [bl_at hi] at h
  exact ⟨hi, (Option.some.inj h).symm⟩
/-- from the end -/
theorem bl_back {l : List Bool} {j : Nat} (h : j < l.length) : atI (blV l) (-1 - (j : Int)) = some (.bl (l.getD (l.length - 1 - j) false)) := by
  have hl : (blV l).length = l.length := List.length_map ..
  unfold atI
  rw [show ixN (blV l).length (-1 - (j : Int)) = some (l.length - 1 - j) by
    unfold ixN
    rw [hl, if_neg (by omega), if_pos (by omega)]
    congr 1
    omega]
  exact bl_at (by omega)
theorem blV_drop (l : List Bool) (n : Nat) : blV (l.drop n) = (blV l).drop n := List.map_drop ..
theorem blV_take (l : List Bool) (n : Nat) : blV (l.take n) = (blV l).take n := List.map_take ..
theorem blV_rep (n : Nat) (l : List Bool) : (List.replicate n (blV l)).flatten = blV (List.replicate n l).flatten := by
  show _ = List.map V.bl _
  rw [List.map_flatten, List.map_replicate]
theorem cut_from (l : List Bool) {n : Nat} (h : n ≤ l.length) : cutV (blV l) (some (n : Int)) none = blV (l.drop n) := by
  unfold cutV
  rw [HT.sIx_none, HT.sIx_nat, List.length_map, Nat.min_eq_left h, blV_drop, List.take_of_length_le (by rw [List.length_drop, List.length_map]; omega)]
theorem cut_to (l : List Bool) (n : Nat) : cutV (blV l) none (some (n : Int)) = blV (l.take n) := by
  unfold cutV
  rw [HT.sIx_none, HT.sIx_nat, List.length_map, List.drop_zero, Nat.sub_zero, blV_take]
  by_cases h : n ≤ l.length
  · rw [Nat.min_eq_left h]
  · rw [Nat.min_eq_right (by omega), List.take_of_length_le (by rw [List.length_map]; omega), List.take_of_length_le (by rw [List.length_map]; omega)]
theorem cut_back (l : List Bool) {n : Nat} (h : 0 < n) (hl : n ≤ l.length) : cutV (blV l) none (some (-(n : Int))) = blV (l.take (l.length - n)) := by
  have e : HT.sIx l.length l.length (some (-(n : Int))) = l.length - n := by
    show (if -(n : Int) < 0 then (-(n : Int) + (l.length : Int)).toNat else min (-(n : Int)).toNat l.length) = _
    rw [if_pos (by omega)]
    omega
  unfold cutV
  rw [HT.sIx_none, List.length_map, e, List.drop_zero, Nat.sub_zero, blV_take]
/-! == -/
theorem eqv_bls : ∀ a b : List Bool, PyData.eqvAll (blD a) (blD b) = decide (a = b)
  | [], [] => by simp [PyData.eqvAll]
  | [], _ :: _ => by simp [PyData.eqvAll]
  | _ :: _, [] => by simp [PyData.eqvAll]
  | x :: a, y :: b => by
    have ih := eqv_bls a b
    simp only [List.map_cons, PyData.eqvAll, PyData.eqv] at ih ⊢
    rw [ih]
    by_cases h : x = y
    · by_cases h2 : a = b
      · rw [h, h2]; simp
      · simp [h, h2]
    · simp [h]
theorem eqv_bl (a b : List Bool) : PyData.eqv (.list (blD a)) (.list (blD b)) = decide (a = b) := by
  rw [← eqv_bls a b]
  simp only [PyData.eqv]
theorem canLay_bls : ∀ l : List Bool, PyData.canLayAll0 (blD l) = true
  | [] => rfl
  | _ :: r => by show (true && PyData.canLayAll0 (blD r)) = true; rw [canLay_bls r]; rfl
theorem depth_bls : ∀ l : List Bool, PyData.depthAll (blD l) = 0
  | [] => by simp only [List.map_nil, PyData.depthAll]
  | x :: r => by
    show PyData.depthAll (PyData.bool x :: blD r) = 0
    simp only [PyData.depthAll, PyData.depth, depth_bls r]
    decide
theorem shaped_bls (l : List Bool) : SeqAt.shaped (.list (blD l)) = true := by
  have h3 : PyData.canLay0 (.list (blD l)) = true := by simp only [PyData.canLay0]; exact canLay_bls l
  have h4 : PyData.depth (.list (blD l)) ≤ 64 := by simp only [PyData.depth, depth_bls]; omega
  show (PyData.canLay0 _ && decide (PyData.depth _ ≤ 64)) = true
  rw [h3, decide_eq_true h4]
  rfl
/-- == of lists of Booleans -/
theorem eq_bls {H : Hp} {Q : VK} {a b : Addr} {l m : List Bool} (ha : H a = some (.lst (blV l))) (hb : H b = some (.lst (blV m))) (q : Q (.bl (decide (l = m))) H) : rEqT (.ref a) (.ref b) H Q :=
  ⟨_, _, .bls ha, .bls hb, shaped_bls l, shaped_bls m, by rw [eqv_bl]; exact q⟩
theorem ne_bls {H : Hp} {Q : VK} {a b : Addr} {l m : List Bool} (ha : H a = some (.lst (blV l))) (hb : H b = some (.lst (blV m))) (q : Q (.bl (!decide (l = m))) H) : rNeT (.ref a) (.ref b) H Q :=
  ⟨_, _, .bls ha, .bls hb, shaped_bls l, shaped_bls m, by rw [eqv_bl]; exact q⟩
/-! sizes -/
theorem Bnd.bls {l : List Bool} {n : Nat} (h : l.length ≤ n) : Bnd 1 n (.list (blD l)) := by
  refine Bnd.list (k := 0) (b := 0) (n := n) (fun d hd => ?_) (by rw [List.length_map]; exact h) (by omega)
  obtain ⟨x, _, rfl⟩ := List.mem_map.mp hd
  exact .bl x
theorem Bnd.wd {A T : List Bool} {n : Nat} (h : A.length ≤ n) (h' : T.length ≤ n) : Bnd 2 (2 * (n + 1)) (wdD A T) := by
  refine Bnd.tuple (k := 1) (b := n) (n := 2) (fun d hd => ?_) (Nat.le_refl _) (Nat.le_refl _)
  simp only [List.mem_cons, List.not_mem_nil, or_false] at hd
  rcases hd with rfl | rfl
  · exact .bls h
  · exact .bls h'
theorem wd_nice {A T : List Bool} (h : A.length ≤ 1000) (h' : T.length ≤ 1000) : Nice (wdD A T) := (Bnd.wd h h').nice (by decide) (by decide)
/-! ### repr of data that has dicts anywhere in it -/
section
variable {X : Cx} {pins : List (Addr × Obj)} {σ : L2.St} {H : Hp} {s : Shared}
mutual
theorem Dt.reads2 (I : Inv X pins σ H s) : ∀ (d : PyData) (v : V) (u : Value), Dt H v d → RelV v u → ∃ as, Reads s.heap u d as ∧ ∀ a ∈ as, H a ≠ none
  | .none, _, _, h, r => by
    cases h
    cases r
    exact ⟨_, Reads.none, fun _ z => nomatch z⟩
  | .bool b, _, _, h, r => by
    cases h
    cases r
    exact ⟨_, Reads.bool b, fun _ z => nomatch z⟩
  | .int i, _, _, h, r => by
    cases h
    obtain ⟨t, rfl⟩ := r
    exact ⟨_, Reads.int i t, fun _ z => nomatch z⟩
  | .str x, _, _, h, r => by
    cases h
    obtain ⟨t, rfl⟩ := r
    exact ⟨_, Reads.str x t, fun _ z => nomatch z⟩
  | .list ds, _, _, h, r => by
    cases h with
    | lst hs ha =>
      cases r
      obtain ⟨its, rv, ⟨o, n, ho, hc, _, hd⟩, _⟩ := I.list (X := X) (show SqL X.K H _ _ from .inl (.inl hs))
      obtain ⟨as, hr, hn⟩ := Dt.reads2All I ds _ its ha rv
      refine ⟨_, Reads.list ho hc hd hr, fun a z => ?_⟩
      rcases List.mem_cons.mp z with z | z
      · rw [z, hs]
        exact fun y => nomatch y
      · exact hn a z
  | .tuple ds, _, _, h, r => by
    cases h with
    | tup hs ha =>
      cases r
      obtain ⟨its, rv, ⟨o, ho, hc, n, hd⟩, _⟩ := I.tuple (X := X) (show SqT X.K H _ _ from .inl (.inl hs))
      obtain ⟨as, hr, hn⟩ := Dt.reads2All I ds _ its ha rv
      exact ⟨_, Reads.tuple ho hc hd hr, hn⟩
  | .dict ds, _, _, h, r => by
    cases h with
    | dic kvs hs =>
      cases r
      obtain ⟨_, ns, vs, kv, o, es, ep, ho, hx, hd, _, pr, _⟩ := dk_of I.hok hs
      obtain ⟨a, b⟩ := readsKV (h := s.heap) kvs vs es.toList kv pr
      refine ⟨_, Reads.dict ho hx.1 hd a b, fun c z => ?_⟩
      simp only [List.append_nil, List.mem_singleton] at z
      rw [z, hs]
      exact fun y => nomatch y
theorem Dt.reads2All (I : Inv X pins σ H s) : ∀ (ds : List PyData) (vs : List V) (us : List Value), DtAll H vs ds → Vals vs us → ∃ as, ReadsAll s.heap us ds as ∧ ∀ a ∈ as, H a ≠ none
  | [], _, _, h, r => by
    cases h
    cases r
    exact ⟨_, ReadsAll.nil, fun _ z => nomatch z⟩
  | d :: ds, _, _, h, r => by
    cases h with
    | cons h1 h2 =>
      cases r with
      | cons r1 r2 =>
        obtain ⟨as, q1, n1⟩ := Dt.reads2 I d _ _ h1 r1
        obtain ⟨bs, q2, n2⟩ := Dt.reads2All I ds _ _ h2 r2
        exact ⟨_, ReadsAll.cons q1 q2, fun a z => (List.mem_append.mp z).elim (n1 a) (n2 a)⟩
end
theorem Inv.noSys (I : Inv X pins σ H s) (h : (X.K.lookup sysModules).isSome = true) : H sysModules = none := by
  obtain ⟨o, e⟩ := Option.isSome_iff_exists.mp h
  exact (I.bs _ _ (I.mod.kin _ _ e)).2
/-- data whose repr can be told, dicts anywhere -/
structure ShowsN (d : PyData) : Prop where
  show_ : d.showable = true
  fits : d.shown.length ≤ sizeLine
  deep : d.depth ≤ 60
theorem Nice.showsN {d : PyData} (n : Nice d) : ShowsN d := ⟨n.shows.show_, n.fits, n.deep⟩
def rReprN : List V → Hp → VK → Prop := fun xs H Q => ∃ (x : V) (d : PyData), xs = [x] ∧ Dt H x d ∧ ShowsN d ∧ Q (.str d.shown) H
theorem call_reprN {K : PySem.W.Frag} (hK : X.K = K) (hsys : (K.lookup sysModules).isSome = true) (gd : Gd X.A) (hu : X.A.units + 64 < cLine) : CallR X (.builtin "repr") rReprN := by
  subst hK
  intro pins s σ H xs us Q I r h
  obtain ⟨x, d, rfl, dp, nice, q⟩ := h
  have sh := nice.show_
  have sz := nice.fits
  have dep := nice.deep
  obtain ⟨u, rfl, ru⟩ := vals1 r
  obtain ⟨as, rd, nm⟩ := Dt.reads2 I d x u dp ru
  have hsm : d.hasDict = true → sysModules ∉ as := fun _ z => nm _ z (Inv.noSys I hsys)
  cases dp with
  | non => cases (show u = Value.none from ru); exact PySem.P.repr_of_none ⟨.str _, H, I.tok _, ⟨_, rfl⟩, q⟩
  | bl b => cases (show u = Value.bool b from ru); exact PySem.P.repr_of_bool ⟨.str _, H, I.tok _, ⟨_, rfl⟩, by simpa only [PyData.shown] using q⟩
  | int i => obtain ⟨t, rfl⟩ := ru; exact PySem.P.repr_of_int (by simpa only [PyData.showable, decide_eq_true_eq] using sh) ⟨.str _, H, I.tok _, ⟨_, rfl⟩, by simpa only [PyData.shown] using q⟩
  | str z => obtain ⟨t, rfl⟩ := ru; exact PySem.P.repr_of_str ⟨.str _, H, I.tok _, ⟨_, rfl⟩, by simpa only [PyData.shown] using q⟩ (by simpa only [PyData.shown] using sz)
  | @lst a xs ds e1 e2 =>
    cases (show u = Value.ref a from ru)
    exact repr_of_reads' rd sh hsm gd (by omega) (fun _ _ e => e) (fun h' u tk hk => ⟨.str _, H, I.kept hk, ⟨_, rfl⟩, q⟩) sz
  | @tup a xs ds e1 e2 =>
    cases (show u = Value.ref a from ru)
    exact repr_of_reads' rd sh hsm gd (by omega) (fun _ _ e => e) (fun h' u tk hk => ⟨.str _, H, I.kept hk, ⟨_, rfl⟩, q⟩) sz
  | @dic a kvs e1 =>
    cases (show u = Value.ref a from ru)
    exact repr_of_reads' rd sh hsm gd (by omega) (fun _ _ e => e) (fun h' u tk hk => ⟨.str _, H, I.kept hk, ⟨_, rfl⟩, q⟩) sz
end
theorem bl_showsN (b : Bool) : ShowsN (.bool b) := ((Bnd.bl (k := 0) (b := 0) b).nice (by decide) (by decide)).showsN
theorem int_showsN {i : Int} (h : i.natAbs < 10 ^ 38) : ShowsN (.int i) := (Nice.int h).showsN
end Hw
namespace Hw
open PySem PySem.Spec PyProof.Rows L2
/-! ### data laid anew, told exactly, over what stands already -/
/-- what is rested on stays while new things are laid -/
def StS (S : Hp → Prop) : Prop := ∀ H H', S H → Same H H' → S H'
section
variable {S : Hp → Prop} {σ : L2.St} {ds es : List PyData} {d : PyData} {te tf : TE} {ta : TA} {i : Nat} {K : PySem.W.Frag}
theorem Ex.int (i : Int) : Ev S (Ed (.int i)) (tC (.int i)) σ := fun H Q _ q => q _ H (Same.refl H) (.int i)
theorem Ex.bl (b : Bool) : Ev S (Ed (.bool b)) (tC (.bl b)) σ := fun H Q _ q => q _ H (Same.refl H) (.bl b)
theorem Ex.str (x : Str) : Ev S (Ed (.str x)) (tC (.str x)) σ := fun H Q _ q => q _ H (Same.refl H) (.str x)
theorem Ex.non : Ev S (Ed .none) (tC .non) σ := fun H Q _ q => q _ H (Same.refl H) .non
theorem Ex.var {x : V} (h : σ[i]? = some (some x)) (hx : ∀ H, S H → Dt H x d) : Ev S (Ed d) (tVar i) σ := fun H Q s q => ⟨x, h, q x H (Same.refl H) (hx H s)⟩
theorem Ex.nil : Eva S (Eda []) tNil σ := fun H Q _ q => q _ H (Same.refl H) .nil
theorem Ex.cons (st : StS S) (h : Ev S (Ed d) te σ) (r : Eva S (Eda ds) ta σ) : Eva S (Eda (d :: ds)) (tCons te ta) σ := fun H Q s q => h H _ s fun x H1 e1 p1 => r H1 _ (st _ _ s e1) fun xs H2 e2 p2 => q _ H2 (e1.trans e2) (.cons (Dt.to p1 e2) p2)
theorem Ex.lst (h : Eva S (Eda ds) ta σ) (hn : ds.length ≤ 100000 := by decide) : Ev S (Ed (.list ds)) (tLst ta) σ := fun H Q s q => h H _ s fun xs H1 e1 p1 => by
  have p1 : DtAll H1 xs ds := p1
  refine ⟨by rw [p1.len, sizeLine_eq]; omega, fun p hp => ?_⟩
  have e2 := same_new' (o := .lst xs) hp
  exact q _ _ (e1.trans e2) (Dt.lst upd_same (p1.to e2))
theorem Ex.tup (h : Eva S (Eda ds) ta σ) (hn : ds.length ≤ 100000 := by decide) : Ev S (Ed (.tuple ds)) (tTup ta) σ := fun H Q s q => h H _ s fun xs H1 e1 p1 => by
  have p1 : DtAll H1 xs ds := p1
  refine ⟨by rw [p1.len, sizeLine_eq]; omega, fun p hp => ?_⟩
  have e2 := same_new' (o := .tup xs) hp
  exact q _ _ (e1.trans e2) (Dt.tup upd_same (p1.to e2))
theorem Ex.dnew : Ev S (Ed (.dict [])) tDNewK σ := fun H Q s q p hp => q _ _ (same_new' hp) (.dic [] upd_same)
theorem Dt.tup_at {H : Hp} {x : V} {ds : List PyData} (h : Dt H x (.tuple ds)) : ∃ a xs, x = .ref a ∧ H a = some (.tup xs) ∧ DtAll H xs ds := by
  cases h with
  | @tup a xs _ ha hs => exact ⟨a, xs, rfl, ha, hs⟩
theorem Dt.lst_at {H : Hp} {x : V} {ds : List PyData} (h : Dt H x (.list ds)) : ∃ a xs, x = .ref a ∧ H a = some (.lst xs) ∧ DtAll H xs ds := by
  cases h with
  | @lst a xs _ ha hs => exact ⟨a, xs, rfl, ha, hs⟩
theorem DtAll.at {H : Hp} : ∀ {vs : List V} {ds : List PyData}, DtAll H vs ds → ∀ (i : Nat) (d : PyData), ds[i]? = some d → ∃ v, vs[i]? = some v ∧ Dt H v d
  | _, _, .nil, i, d, h => by simp at h
  | _, _, .cons h1 r, 0, d, h => by
    have e := Option.some.inj (show some _ = some d from h)
    subst e
    exact ⟨_, rfl, h1⟩
  | _, _, .cons _ r, i + 1, d, h => r.at i d h
theorem Ex.ixT {n : Nat} (h : Ev S (Ed (.tuple ds)) te σ) (hi : ds[n]? = some d) : Ev S (Ed d) (tOp (rIxT K) te (tC (.int (n : Int)))) σ := fun H Q s q => h H _ s fun x H1 e1 p1 => by
  obtain ⟨a, xs, rfl, ha, hs⟩ := Dt.tup_at p1
  obtain ⟨v, hv, hd⟩ := hs.at n d hi
  exact ⟨a, xs, n, v, rfl, rfl, .inl (.inl ha), atI_nat hv, q _ H1 e1 hd⟩
theorem Ex.listT (h : Ev S (Ed (.tuple ds)) te σ) : Ev S (Ed (.list ds)) (tCB (rListK K) (tCons te tNil)) σ := fun H Q s q => h H _ s fun x H1 e1 p1 => by
  obtain ⟨a, xs, rfl, ha, hs⟩ := Dt.tup_at p1
  refine ⟨a, xs, rfl, .inr (.inl (.inl ha)), fun p hp => ?_⟩
  have e2 := same_new' (o := .lst xs) hp
  exact q _ _ (e1.trans e2) (Dt.lst upd_same (hs.to e2))
theorem Ex.tupL (h : Ev S (Ed (.list ds)) te σ) : Ev S (Ed (.tuple ds)) (tCB (rTupK K) (tCons te tNil)) σ := fun H Q s q => h H _ s fun x H1 e1 p1 => by
  obtain ⟨a, xs, rfl, ha, hs⟩ := Dt.lst_at p1
  refine ⟨a, xs, rfl, .inl ⟨.inl (.inl ha), fun p hp => ?_⟩⟩
  have e2 := same_new' (o := .tup xs) hp
  exact q _ _ (e1.trans e2) (Dt.tup upd_same (hs.to e2))
theorem Ex.cutT {n : Nat} (h : Ev S (Ed (.tuple ds)) te σ) : Ev S (Ed (.tuple (ds.take n))) (L2.tSl (rSlA K) te tNoPart (tPart (tC (.int (n : Int))))) σ := fun H Q s q => h H _ s fun x H1 e1 p1 => by
  obtain ⟨a, xs, rfl, ha, hs⟩ := Dt.tup_at p1
  have hl := hs.len
  refine ⟨n, rfl, a, xs, rfl, .inl (.inl ha), fun z => ?_, fun _ p hp => ?_⟩
  · have : n ≥ xs.length := by
      have z2 := z.2
      rw [HT.sIx_nat] at z2
      omega
    rw [List.take_of_length_le (by omega)] at q
    exact q _ H1 e1 (Dt.tup ha hs)
  · have ec : cutV xs none (some (n : Int)) = xs.take n := by
      unfold cutV
      rw [HT.sIx_none, HT.sIx_nat, List.drop_zero, Nat.sub_zero]
      by_cases h : n ≤ xs.length
      · rw [Nat.min_eq_left h]
      · rw [Nat.min_eq_right (by omega), List.take_of_length_le (Nat.le_refl _), List.take_of_length_le (by omega)]
    rw [ec]
    have e2 := same_new' (o := .tup (xs.take n)) hp
    exact q _ _ (e1.trans e2) (Dt.tup upd_same ((hs.take n).to e2))
theorem Ex.cat (st : StS S) (h : Ev S (Ed (.list ds)) te σ) (k : Ev S (Ed (.list es)) tf σ) (hn : ds.length + es.length ≤ 100000) : Ev S (Ed (.list (ds ++ es))) (tOp rCat te tf) σ := fun H Q s q => h H _ s fun x H1 e1 p1 => k H1 _ (st _ _ s e1) fun y H2 e2 p2 => by
  obtain ⟨a, xs, rfl, ha, hs⟩ := Dt.lst_at (Dt.to p1 e2)
  obtain ⟨b, ys, rfl, hb, ht⟩ := Dt.lst_at p2
  refine ⟨a, b, xs, ys, rfl, rfl, ha, hb, by rw [hs.len, ht.len, sizeLine_eq]; omega, fun p hp => ?_⟩
  have e3 := same_new' (o := .lst (xs ++ ys)) hp
  exact q _ _ ((e1.trans e2).trans e3) (Dt.lst upd_same ((hs.app ht).to e3))
theorem Ex.catT (st : StS S) (h : Ev S (Ed (.tuple ds)) te σ) (k : Ev S (Ed (.tuple es)) tf σ) (hn : ds.length + es.length ≤ 100000) : Ev S (Ed (.tuple (ds ++ es))) (tOp (rCatA K) te tf) σ := fun H Q s q => h H _ s fun x H1 e1 p1 => k H1 _ (st _ _ s e1) fun y H2 e2 p2 => by
  obtain ⟨a, xs, rfl, ha, hs⟩ := Dt.tup_at (Dt.to p1 e2)
  obtain ⟨b, ys, rfl, hb, ht⟩ := Dt.tup_at p2
  refine ⟨a, b, xs, ys, rfl, rfl, .inl (.inl ha), .inl (.inl hb), by rw [hs.len, ht.len, sizeLine_eq]; omega, fun z => ?_, fun z1 z2 => ?_, fun _ _ p hp => ?_⟩
  · subst z
    cases hs
    exact q _ H2 (e1.trans e2) (Dt.tup hb ht)
  · subst z2
    cases ht
    rw [List.append_nil] at q
    exact q _ H2 (e1.trans e2) (Dt.tup ha hs)
  · have e3 := same_new' (o := .tup (xs ++ ys)) hp
    exact q _ _ ((e1.trans e2).trans e3) (Dt.tup upd_same ((hs.app ht).to e3))
end
end Hw
namespace Hw
open PySem PySem.Spec PyProof.Rows L2
/-! ### bounds, item by item -/
def AllB (k b : Nat) (ds : List PyData) : Prop := ∀ d ∈ ds, Bnd k b d
theorem AllB.nil {k b : Nat} : AllB k b [] := fun d h => nomatch h
theorem AllB.cons {k b k' b' : Nat} {d : PyData} {ds : List PyData} (h : Bnd k' b' d) (r : AllB k b ds) (hk : k' ≤ k := by decide) (hb : b' ≤ b := by decide) : AllB k b (d :: ds) := fun x hx => by
  rcases List.mem_cons.mp hx with e | e
  · rw [e]; exact h.up hk hb
  · exact r x e
theorem AllB.app {k b : Nat} {ds es : List PyData} (h : AllB k b ds) (r : AllB k b es) : AllB k b (ds ++ es) := fun x hx => (List.mem_append.mp hx).elim (h x) (r x)
theorem AllB.bls {k b : Nat} (l : List Bool) : AllB k b (blD l) := fun x hx => by
  obtain ⟨y, _, rfl⟩ := List.mem_map.mp hx
  exact .bl y
theorem Bnd.lst {k b n c : Nat} {ds : List PyData} (h : AllB k b ds) (hl : ds.length ≤ n) (hc : n * (b + 1) ≤ c := by decide) : Bnd (k + 1) c (.list ds) := Bnd.list h hl hc
theorem Bnd.tup {k b n c : Nat} {ds : List PyData} (h : AllB k b ds) (hl : ds.length ≤ n) (hc : n * (b + 1) ≤ c := by decide) : Bnd (k + 1) c (.tuple ds) := Bnd.tuple h hl hc
/-- a list of Booleans and one thing more -/
theorem Bnd.blsP {l : List Bool} {d : PyData} {n : Nat} (h : l.length ≤ n) (hd : Bnd 0 0 d) : Bnd 1 (n + 1) (.list (blD l ++ [d])) :=
  Bnd.list (k := 0) (b := 0) (n := n + 1) (AllB.app (AllB.bls l) (AllB.cons hd AllB.nil)) (by rw [List.length_append, List.length_map]; show l.length + 1 ≤ _; omega) (by omega)
theorem Bnd.blsT {l : List Bool} {n : Nat} (h : l.length ≤ n) : Bnd 1 n (.tuple (blD l)) := Bnd.tuple (k := 0) (b := 0) (n := n) (AllB.bls l) (by rw [List.length_map]; exact h) (by omega)
end Hw

set_option Elab.async false
set_option linter.all false
set_option maxRecDepth 100000
set_option maxHeartbeats 4000000
/-! the head's facts; the part of the heap that is read has the table of loaded modules -/
namespace Hw
open PySem PySem.Spec PyProof.Rows L2
def partY (n : Nat) (g : Addr → Option Obj) : PySem.W.Frag := He.frG g (sysModules :: He.asD g n)
def obsY (fa : List He.Fa) (fn : List He.DefD) (K : PySem.W.Frag) : He.AlD := ((He.obsD fa fn K).1 && (K.lookup sysModules).isSome, (He.obsD fa fn K).2)
def SaysY (fa : List He.Fa) (fn : List He.DefD) (K : PySem.W.Frag) : Prop := obsY fa fn K = He.valD fn
def obsYG (n : Nat) (fa : List He.Fa) (fn : List He.DefD) (g : Addr → Option Obj) : He.AlD := obsY fa fn (partY n g)
def hookY (n : Nat) (fa : List He.Fa) (fn : List He.DefD) : PySem.W.Hook where
  α := He.AlD
  obs := fun s => obsYG n fa fn s.heap.get?
  val := fun _ => He.valD fn
  says := fun _ h => ∃ K : PySem.W.Frag, K.In h ∧ SaysY fa fn K
  of := fun _ _ e => ⟨_, He.frG_in, e⟩
  keeps := fun _ _ _ ⟨K, hK, c⟩ k => ⟨K, PySem.W.Frag.In.keeps hK k, c⟩
theorem obsYG_eq {n : Nat} {fa : List He.Fa} {fn : List He.DefD} {g : Addr → Option Obj} {s : Shared} (h : ∀ a, g a = s.heap.get? a) : obsYG n fa fn g = (hookY n fa fn).obs s := by
  rw [show g = s.heap.get? from funext h]
  rfl
theorem SaysY.says {fa : List He.Fa} {fn : List He.DefD} {K : PySem.W.Frag} (h : SaysY fa fn K) : He.SaysD fa fn K ∧ (K.lookup sysModules).isSome = true := by
  have e1 : ((He.obsD fa fn K).1 && (K.lookup sysModules).isSome) = true := congrArg Prod.fst (show obsY fa fn K = He.valD fn from h)
  have e2 : (obsY fa fn K).2 = (He.valD fn).2 := congrArg Prod.snd (show obsY fa fn K = He.valD fn from h)
  obtain ⟨a, b⟩ := Bool.and_eq_true_iff.mp e1
  exact ⟨Prod.ext a e2, b⟩
/-! literals, one by one -/
theorem lit_wd {H : Hp} {p q a : Addr} {A T : List Bool} (hp : H p = none) (hq : upd H p (.lst (blV A)) q = none) (ha : upd (upd H p (.lst (blV A))) q (.lst (blV T)) a = none) :
    Same H (upd (upd (upd H p (.lst (blV A))) q (.lst (blV T))) a (.tup [.ref p, .ref q])) ∧ Dt (upd (upd (upd H p (.lst (blV A))) q (.lst (blV T))) a (.tup [.ref p, .ref q])) (.ref a) (wdD A T) := by
  have e1 := same_new' (o := .lst (blV A)) hp
  have e2 := same_new' (o := .lst (blV T)) hq
  have e3 := same_new' (o := .tup [.ref p, .ref q]) ha
  exact ⟨(e1.trans e2).trans e3, .wd_of upd_same (e3 _ _ (e2 _ _ upd_same)) (e3 _ _ upd_same)⟩
section
variable {te tf : TE} {ta : TA} {σ : L2.St} {H : Hp} {Q : VK} {QA : List V → Hp → Prop} {sp : Sp} {dvs : List V} {E : XK} {r : R2} {rb : List V → Hp → VK → Prop}
theorem consL (h : te σ H fun x H1 => ta σ H1 fun xs H2 => QA (x :: xs) H2) : tCons te ta σ H QA := h
theorem oneL (h : te σ H fun x H1 => QA [x] H1) : tCons te tNil σ H QA := h
theorem cbL (h : ta σ H fun vs H1 => rb vs H1 Q) : tCB rb ta σ H Q := h
theorem opL (h : te σ H fun x H1 => tf σ H1 fun y H2 => r x y H2 Q) : tOp r te tf σ H Q := h
theorem andL {t u : TT} {QB : Bool → Hp → Prop} (h : t σ H fun c H1 => if c = true then u σ H1 QB else QB false H1) : tAnd t u σ H QB := h
end
end Hw

set_option Elab.async false
set_option linter.all false
set_option maxRecDepth 100000
set_option maxHeartbeats 4000000
/-! for i in range(a, b) with ends of any size -/
namespace Hw
open PySem PySem.Spec PyProof.Rows L2
theorem turnBig {P : Program} {w : World} {K : PySem.W.Frag} {tg : Expr} (z : Addr) (a : Int) (m : Nat) : Turn P w K tg (Itr a m) [z] z (fun k g => IsLongIter g z (a + (k : Nat) * 1) ((m : Int) - (k : Nat)) 1) where
  mem := List.mem_singleton.mpr rfl
  obj := fun k g q b hb => by
    cases List.mem_singleton.mp hb
    exact ⟨_, q, fun v y => Data.noConfusion (show Data.fields _ = Data.cell v from y)⟩
  keep := fun k g g' q keeps => keeps z (List.mem_singleton.mpr rfl) _ q
  item := by
    intro X e1 e2 e3 calm k pins st σ H E J free q more
    subst e1 e2 e3
    obtain ⟨p0, p1, p2, p3, p4, p5⟩ := free z (List.mem_singleton.mpr rfl)
    refine (Walks.longrange (prog := X.prog) (w := X.w) (J.ok.hd calm) z a 1 m).item k st _ _ more q fun v g' tk ⟨t, hv⟩ q' same => ?_
    subst hv
    have J1 : Inv X pins σ H { st with heap := g', toks := tk } := J.turned (fun b o nb e => same b o (fun y => nb (List.mem_singleton.mp y)) e) p0 p1 p3 p4 p5
    refine ⟨_, rfl, go_of (s := { st with heap := g', toks := tk }) (n := "longrange_iterator") q' rfl rfl (by decide) ⟨.int (a + k), H, J1, ⟨t, by rw [Int.mul_one]⟩, ⟨rfl, rfl⟩, q', fun b hb => (free b hb).1⟩⟩
  done := by
    intro X e1 e2 e3 calm k pins st σ H E J free q no
    subst e1 e2 e3
    obtain ⟨p0, p1, p2, p3, p4, p5⟩ := free z (List.mem_singleton.mpr rfl)
    have no : m ≤ k := no
    exact wpAny_pyNext_long_end (J.ok.hd calm) q (by omega) fun g' same => ⟨rfl, J.turned (t' := st.toks) (fun b o nb e => same b o nb e) p0 p1 p3 p4 p5⟩
  self := fun _ _ _ _ _ q done => wpAny_pyIter_longiter q done
theorem size_one (a b : Int) : (((b - a).toNat : Nat) : Int) = Builtin.Range.rangeSize a b 1 := by
  rw [rangeSize_one]
  split <;> omega
section
variable {X : Cx} {tg : Expr}
/-- a range just made, whatever its ends -/
theorem rangeAny {pins : List (Addr × Obj)} {σ : L2.St} {H : Hp} {st : Shared} {R : It → Hp → Prop} {E : Value → Shared → Prop} {a b : Int} {t u v : Tok} {tk : Nat} (J : Inv X pins σ H st) (q : R (Itr a (b - a).toNat) H) :
    wpAny (model X.prog X.w) X.A (pyIter (.ref st.heap.objs.size)) (PIE X pins σ tg R) E { st with heap := st.heap.push { cls := .type "range", data := .fields #[.int a t, .int b u, .int 1 v] }, toks := tk } := by
  have J1 : Inv X pins σ H { st with heap := st.heap.push { cls := .type "range", data := .fields #[.int a t, .int b u, .int 1 v] }, toks := tk } := J.kept fun c o e => Heap.get?_push_of_some _ e
  have w0 : a + ((0 : Nat) : Int) * 1 = a := by omega
  have w1 : (((b - a).toNat : Nat) : Int) - ((0 : Nat) : Int) = Builtin.Range.rangeSize a b 1 := by rw [← size_one]; omega
  have fresh := fun c (hc : c ∈ [(st.heap.push { cls := .type "range", data := .fields #[.int a t, .int b u, .int 1 v] }).objs.size]) => (List.mem_singleton.mp hc) ▸ J1.fpOk (Nat.le_refl _) (J1.hok.fresh (Nat.le_refl _))
  cases small : Builtin.Range.small a b 1 with
  | true =>
    refine wpAny_pyIter_range (IsRange.new ..) small ⟨_, [_], _, Itr a (b - a).toNat, H, rfl, J1.kept (t' := tk) fun c o e => Heap.get?_push_of_some _ e, turn_range _ a (b - a).toNat, ?_, fresh, q⟩
    show IsRangeIter _ _ (a + ((0 : Nat) : Int) * 1) ((((b - a).toNat : Nat) : Int) - ((0 : Nat) : Int)) 1
    rw [w0, w1]
    exact Heap.get?_push_size _ rfl
  | false =>
    refine wpAny_pyIter_longrange (IsRange.new ..) small ⟨_, [_], _, Itr a (b - a).toNat, H, rfl, J1.kept (t' := tk) fun c o e => Heap.get?_push_of_some _ e, turnBig _ a (b - a).toNat, ?_, fresh, q⟩
    show IsLongIter _ _ (a + ((0 : Nat) : Int) * 1) ((((b - a).toNat : Nat) : Int) - ((0 : Nat) : Int)) 1
    rw [w0, w1]
    exact Heap.get?_push_size _ rfl
def iRngA (ta : TA) : TI := fun σ H R => ta σ H fun vs H1 => ∃ i j : Int, vs = [.int i, .int j] ∧ R (Itr i (j - i).toNat) H1
theorem pi_rangeA {a b : Expr} {ta : TA} {p pos : Pos} (hg : Gl X "range") (hm : X.mg "range" = none) (ha : PA X [a, b] ta) (h2 : starEach [a, b] X.env = [(false, eval a X.env), (false, eval b X.env)] := by rfl) (h1 : starEach [b] X.env = [(false, eval b X.env)] := by rfl) :
    PI X tg (.Call (.Name "range" p) [a, b] [] pos) (iRngA ta) where
  run := fun pins st σ H R J want => Call_ (ld_blt J hg hm boot_range (PyProof.Rows.callWith_type1 (thn (ha.run pos pins st σ H _ J want) fun us s1 told => by
    obtain ⟨vs, H1, J1, rel, i, j, e, q⟩ := told
    subst e
    match us, rel with
    | [_, _], .cons ⟨t, e1⟩ (.cons ⟨t', e2⟩ .nil) =>
      subst e1 e2
      exact call_range_2 (rangeAny J1 q)) (by rw [h2, h1]) (by rw [h1]; rfl)))
end
end Hw

set_option Elab.async false
set_option linter.all false
set_option maxRecDepth 100000
set_option maxHeartbeats 4000000
/-! sums of lists of Booleans -/
namespace Hw
open PySem PySem.Spec PyProof.Rows L2
/-- how many are True -/
def cntB (l : List Bool) : Nat := l.count true
theorem vals_bls : ∀ (bs : List Bool) (us : List Value), Vals (blV bs) us → us = bs.map Value.bool
  | [], _, h => by cases h; rfl
  | b :: r, _, h => by
    cases h with
    | cons h1 h2 =>
      rw [show _ = Value.bool b from h1, vals_bls r _ h2]
      rfl
def bitB (bs : List Bool) (i : Nat) : Int := if bs.getD i false = true then 1 else 0
theorem preSum_bls (bs : List Bool) : ∀ n, n ≤ bs.length → preSum (bitB bs) n = ((bs.take n).count true : Nat)
  | 0, _ => rfl
  | n + 1, h => by
    have ih := preSum_bls bs n (by omega)
    have e : preSum (bitB bs) (n + 1) = preSum (bitB bs) n + bitB bs n := rfl
    rw [e, ih, List.take_add_one, List.getElem?_eq_getElem (show n < bs.length by omega), List.count_append]
    unfold bitB
    rw [getD_lt (show n < bs.length by omega)]
    cases bs[n]
    · rfl
    · rfl
section
variable {X : Cx} {K : PySem.W.Frag}
def rSumB (K : PySem.W.Frag) : List V → Hp → VK → Prop := fun vs H Q => ∃ (a : Addr) (bs : List Bool), vs = [V.ref a] ∧ SqL K H a (blV bs) ∧ Q (.int (cntB bs : Nat)) H
theorem cr_sumB (hK : X.K = K) (hc : X.calm = true) : CallR X (.builtin "sum") (rSumB K) := by
  subst hK
  intro pins s σ H vs us Q I r h
  obtain ⟨a, bs, rfl, hs, q⟩ := h
  obtain ⟨its, rv, hl, _⟩ := I.list hs
  rw [Vals.ref1 r]
  have e := vals_bls bs its rv
  subst e
  have lt : a < s.heap.objs.size := by obtain ⟨_, e, _⟩ := hl.isList; exact Heap.lt_size e
  have I2 : Inv X pins σ H { s with heap := s.heap.push { cls := .type "list_iterator", data := .fields #[.ref a, .int 0 0] } } := I.kept (t' := s.toks) fun b o e => Heap.get?_push_of_some _ e
  refine call_sum_walkAnyB (wpAny_pyIter_list hl.isList ⟨s.heap.objs.size, [s.heap.objs.size, a], [s.heap.objs.size], _, _, _, _, bitB bs, rfl, (Walks.list (A := X.A.in1) (I.ok.hd hc) s.heap.objs.size a (Nat.ne_of_lt lt) (bs.map Value.bool).toArray).toS, ⟨⟨_, Heap.get?_push_size _ rfl, rfl, rfl⟩, hl.isList.push _⟩, ?_, ?_, ?_⟩)
  · intro b hb
    show b < (s.heap.push _).objs.size
    rw [Heap.size_push]
    simp only [List.mem_cons, List.not_mem_nil, or_false] at hb
    rcases hb with rfl | rfl
    · exact Nat.lt_succ_self _
    · exact Nat.lt_succ_of_lt lt
  · intro i v hv
    have hv : (bs.map Value.bool).toArray[i]? = some v := hv
    rw [List.getElem?_toArray, List.getElem?_map] at hv
    obtain ⟨b, hb, rfl⟩ := Option.map_eq_some_iff.mp hv
    refine .inr ⟨b, rfl, ?_⟩
    unfold bitB
    rw [List.getD_eq_getElem?_getD, hb]
    rfl
  · intro s' t' m
    have same : s' = { s with heap := s'.heap, toks := s'.toks } := by
      have e1 : s'.gens = s.gens := m.gens
      have e2 : s'.drawn = s.drawn := m.drawn
      have e3 : s'.os = s.os := m.os
      cases s'
      cases s
      cases e1
      cases e2
      cases e3
      rfl
    rw [same]
    refine ⟨.int _, H, I.kept (t' := s'.toks) fun b o e => m.heap b o (fun z => ?_) (Heap.get?_push_of_some _ e), ⟨_, rfl⟩, ?_⟩
    · rw [List.mem_singleton.mp z] at e
      exact Nat.lt_irrefl _ (Heap.lt_size e)
    · rw [show ((bs.map Value.bool).toArray.size) = bs.length by rw [List.size_toArray, List.length_map], preSum_bls bs _ (Nat.le_refl _), List.take_length]
      exact q
end
end Hw

set_option Elab.async false
set_option linter.all false
/-! sets of widths: the first one, the greatest one, how many below, the one with a number -/
namespace Hw
def firstW (f : Nat → Bool) (lo n : Nat) : Option Nat := ((List.range n).find? fun i => f (lo + i)).map (lo + ·)
theorem firstW_none {f : Nat → Bool} {lo n : Nat} (h : ∀ j, j < n → f (lo + j) = false) : firstW f lo n = none := by
  unfold firstW
  rw [List.find?_eq_none.mpr fun i hi => by rw [h i (List.mem_range.mp hi)]; exact Bool.false_ne_true]
  rfl
theorem firstW_some {f : Nat → Bool} {lo n i : Nat} (h : ∀ j, j < i → f (lo + j) = false) (hi : i < n) (t : f (lo + i) = true) : firstW f lo n = some (lo + i) := by
  have e : (List.range n).find? (fun i => f (lo + i)) = some i := by
    rw [List.find?_range_eq_some]
    exact ⟨t, List.mem_range.mpr hi, fun j hj => by rw [h j hj]; rfl⟩
  unfold firstW
  rw [e]
  rfl
theorem firstW_lt {f : Nat → Bool} {lo n w : Nat} (h : firstW f lo n = some w) : lo ≤ w ∧ w < lo + n := by
  unfold firstW at h
  obtain ⟨i, hi, rfl⟩ := Option.map_eq_some_iff.mp h
  have := List.mem_range.mp (List.mem_of_find?_eq_some hi)
  omega
/-! the places of what is True -/
def placesTo (l : List Bool) (n : Nat) : List Nat := (List.range n).filter fun i => l.getD i false
def placesW (l : List Bool) : List Nat := placesTo l l.length
theorem placesTo_succ (l : List Bool) (n : Nat) : placesTo l (n + 1) = placesTo l n ++ (if l.getD n false = true then [n] else []) := by
  unfold placesTo
  rw [List.range_succ, List.filter_append]
  cases h : l.getD n false with
  | true => rw [List.filter_cons_of_pos (by simpa using h)]; rfl
  | false => rw [List.filter_cons_of_neg (by simpa using h)]; rfl
theorem count_take (l : List Bool) (n : Nat) (h : n < l.length) : (l.take (n + 1)).count true = (l.take n).count true + (if l.getD n false = true then 1 else 0) := by
  rw [List.take_add_one, List.getElem?_eq_getElem h, List.count_append, getD_lt h]
  cases l[n] <;> rfl
theorem placesTo_len (l : List Bool) : ∀ n, n ≤ l.length → (placesTo l n).length = (l.take n).count true
  | 0, _ => rfl
  | n + 1, h => by
    rw [placesTo_succ, List.length_append, placesTo_len l n (by omega), count_take l n (by omega)]
    split <;> rfl
theorem placesW_len (l : List Bool) : (placesW l).length = l.count true := by
  have := placesTo_len l l.length (Nat.le_refl _)
  rw [List.take_length] at this
  exact this
theorem placesTo_lt {l : List Bool} {n p : Nat} (h : p ∈ placesTo l n) : p < n := List.mem_range.mp (List.mem_filter.mp h).1
theorem placesTo_get (l : List Bool) : ∀ n, n ≤ l.length → ∀ k p, (placesTo l n)[k]? = some p → p < n ∧ l.getD p false = true ∧ (l.take p).count true = k
  | 0, _, k, p, h => by simp [placesTo] at h
  | n + 1, hn, k, p, h => by
    rw [placesTo_succ] at h
    have len := placesTo_len l n (by omega)
    by_cases hk : k < (placesTo l n).length
    · rw [List.getElem?_append_left hk] at h
      obtain ⟨a, b, c⟩ := placesTo_get l n (by omega) k p h
      exact ⟨by omega, b, c⟩
    · rw [List.getElem?_append_right (by omega)] at h
      split at h
      · rename_i t
        cases e : k - (placesTo l n).length with
        | zero =>
          rw [e] at h
          have h : some n = some p := h
          cases h
          exact ⟨by omega, t, by omega⟩
        | succ j => rw [e] at h; simp at h
      · simp at h
theorem placesW_get {l : List Bool} {k p : Nat} (h : (placesW l)[k]? = some p) : p < l.length ∧ l.getD p false = true ∧ (l.take p).count true = k := placesTo_get l l.length (Nat.le_refl _) k p h
theorem places_lt {l : List Bool} : ∀ x ∈ placesW l, x < l.length := fun x h => placesTo_lt h
def greatF (A T : List Bool) : Option Nat := if T.any id = true then none else (placesW A).getLast?
def belowF (A T : List Bool) (n : Nat) : Nat := if n ≤ A.length then (A.take n).count true else A.count true + (n - A.length) / T.length * T.count true + (T.take ((n - A.length) % T.length)).count true
def numbF (A T : List Bool) (k : Nat) : Option Nat :=
  if k < A.count true then (placesW A)[k]? else if T.any id = true then ((placesW T)[(k - A.count true) % T.count true]?).map fun p => A.length + (k - A.count true) / T.count true * T.length + p else none
theorem any_count (l : List Bool) : l.any id = true ↔ 0 < l.count true := by
  rw [List.count_pos_iff, List.any_eq_true]
  constructor
  · rintro ⟨x, hx, h⟩
    cases x
    · cases h
    · exact hx
  · exact fun h => ⟨true, h, rfl⟩
theorem numb_some {A T : List Bool} {k w : Nat} (h0 : 0 < T.length) (h : numbF A T k = some w) : itemW A T w = true ∧ belowF A T w = k := by
  unfold numbF at h
  split at h
  · rename_i hk
    obtain ⟨a, b, c⟩ := placesW_get h
    exact ⟨by rw [item_lt a]; exact b, by unfold belowF; rw [if_pos (by omega)]; exact c⟩
  · rename_i hk
    split at h
    · rename_i ht
      have tp := (any_count T).mp ht
      obtain ⟨p, hp, rfl⟩ := Option.map_eq_some_iff.mp h
      obtain ⟨a, b, c⟩ := placesW_get hp
      have e : A.length + (k - A.count true) / T.count true * T.length + p = A.length + (p + T.length * ((k - A.count true) / T.count true)) := by rw [Nat.mul_comm T.length]; omega
      have dm := Nat.div_add_mod (k - A.count true) (T.count true)
      rw [Nat.mul_comm] at dm
      have e1 : (p + T.length * ((k - A.count true) / T.count true)) % T.length = p := by rw [Nat.add_mul_mod_self_left, Nat.mod_eq_of_lt a]
      have e2 : (p + T.length * ((k - A.count true) / T.count true)) / T.length = (k - A.count true) / T.count true := by rw [Nat.add_mul_div_left _ _ h0, Nat.div_eq_of_lt a, Nat.zero_add]
      rw [e]
      refine ⟨by rw [item_ge, e1]; exact b, ?_⟩
      unfold belowF
      by_cases hz : A.length + (p + T.length * ((k - A.count true) / T.count true)) ≤ A.length
      · rw [if_pos hz]
        have z1 : p + T.length * ((k - A.count true) / T.count true) = 0 := by omega
        have z2 : p = 0 := by omega
        have z3 : (k - A.count true) / T.count true = 0 := by
          rw [← e2, z1, Nat.zero_div]
        rw [z1, Nat.add_zero, List.take_length]
        rw [z3, Nat.zero_mul, Nat.zero_add] at dm
        have c' : 0 = (k - A.count true) % T.count true := by rw [← c, z2]; rfl
        omega
      · rw [if_neg hz, Nat.add_sub_cancel_left, e1, e2, c]
        omega
    · cases h
theorem numb_none {A T : List Bool} {k : Nat} (h : numbF A T k = none) : T.any id = false ∧ A.count true ≤ k := by
  unfold numbF at h
  split at h
  · rename_i hk
    rw [List.getElem?_eq_none_iff, placesW_len] at h
    omega
  · rename_i hk
    split at h
    · rename_i ht
      have tp := (any_count T).mp ht
      rw [Option.map_eq_none_iff, List.getElem?_eq_none_iff, placesW_len] at h
      have := Nat.mod_lt (k - A.count true) tp
      omega
    · rename_i ht
      exact ⟨by simpa using ht, by omega⟩
theorem below_at {A T : List Bool} {n : Nat} (h : A.length < n) : belowF A T n = A.count true + (n - A.length) / T.length * T.count true + (T.take ((n - A.length) % T.length)).count true := if_neg (by omega)
theorem count_le (l : List Bool) : l.count true ≤ l.length := List.count_le_length
theorem numb_lt {A T : List Bool} {k w : Nat} (h : numbF A T k = some w) : w ≤ A.length + (k + 1) * T.length := by
  unfold numbF at h
  split at h
  · have := (placesW_get h).1
    omega
  · split at h
    · obtain ⟨p, hp, rfl⟩ := Option.map_eq_some_iff.mp h
      have := (placesW_get hp).1
      have l := Nat.mul_le_mul_right T.length (Nat.le_trans (Nat.div_le_self (k - A.count true) (T.count true)) (Nat.sub_le k (A.count true)))
      rw [Nat.succ_mul]
      omega
    · cases h
theorem below_le {A T : List Bool} {n : Nat} : belowF A T n ≤ A.length + (n + 1) * T.length := by
  unfold belowF
  have a := count_le A
  have b := count_le T
  split
  · have := count_le (A.take n)
    rw [List.length_take] at this
    omega
  · have c := count_le (T.take ((n - A.length) % T.length))
    rw [List.length_take] at c
    have l := Nat.mul_le_mul (Nat.le_trans (Nat.div_le_self (n - A.length) T.length) (Nat.sub_le n A.length)) b
    rw [Nat.succ_mul]
    omega
end Hw

set_option Elab.async false
set_option linter.all false
set_option maxRecDepth 100000
set_option maxHeartbeats 4000000
/-! texts of widths; options; the data of numbers -/
namespace Hw
open PySem PySem.Spec PyProof.Rows L2
def optV : Option Nat → V
  | none => .non
  | some w => .int (w : Int)
def optD : Option Nat → PyData
  | none => .none
  | some w => .int (w : Int)
theorem Dt.opt {H : Hp} (o : Option Nat) : Dt H (optV o) (optD o) := by
  cases o with
  | none => exact .non
  | some w => exact .int _
theorem opt_nice {o : Option Nat} (h : ∀ w, o = some w → w < 10 ^ 38) : Nice (optD o) := by
  cases o with
  | none => exact (Bnd.non (k := 0) (b := 0)).nice (by decide) (by decide)
  | some w => exact Nice.int (by have := h w rfl; omega)
/-! texts -/
def figN (b : Bool) : Nat := if b then 49 else 48
def figS (l : List Bool) : Str := ⟨(l.map figN).toArray⟩
def textS (A T : List Bool) : Str := figS A ++ "(" ++ figS T ++ ")"
def figT (b : Bool) : Str := if b = true then "1" else "0"
theorem figT_eq (b : Bool) : figT b = ⟨#[figN b]⟩ := by cases b <;> decide +kernel
theorem str_ext {x y : Str} (h : x.cps.toList = y.cps.toList) : x = y := by
  cases x
  cases y
  congr 1
  exact Array.ext' h
theorem app_cps (x y : Str) : (x ++ y).cps.toList = x.cps.toList ++ y.cps.toList := by
  show (x.cps ++ y.cps).toList = _
  rw [Array.toList_append]
theorem figS_cps (l : List Bool) : (figS l).cps.toList = l.map figN := rfl
theorem textS_cps (A T : List Bool) : (textS A T).cps.toList = (A.map figN ++ 40 :: T.map figN) ++ [41] := by
  unfold textS
  rw [app_cps, app_cps, app_cps, figS_cps, figS_cps]
  rw [show ("(" : Str).cps.toList = [40] by decide +kernel, show (")" : Str).cps.toList = [41] by decide +kernel, List.append_assoc (List.map figN A)]
  rfl
theorem join_figs : ∀ l : List Bool, Str.join ("" : Str) (l.map figT) = figS l
  | [] => by decide +kernel
  | [b] => by show figT b = _; rw [figT_eq]; rfl
  | b :: c :: r => by
    show figT b ++ ("" : Str) ++ Str.join "" ((c :: r).map figT) = _
    rw [join_figs (c :: r)]
    apply str_ext
    rw [app_cps, app_cps, figT_eq, show ("" : Str).cps.toList = [] by decide +kernel]
    rfl
theorem figN_lt (b : Bool) : figN b < 50 := by cases b <;> decide
theorem figS_len (l : List Bool) : (figS l).length = l.length := by
  show (l.map figN).toArray.size = _
  rw [List.size_toArray, List.length_map]
theorem textS_len (A T : List Bool) : (textS A T).length = A.length + T.length + 2 := by
  have e : (textS A T).length = (textS A T).cps.toList.length := (Array.length_toList ..).symm
  rw [e, textS_cps]
  simp only [List.length_append, List.length_cons, List.length_map, List.length_nil]
  omega
theorem textS_shows {A T : List Bool} (h : A.length ≤ 1000) (h' : T.length ≤ 1000) : Shows (.str (textS A T)) := by
  have all : ∀ c ∈ (textS A T).cps.toList, c < 50 := by
    intro c hc
    rw [textS_cps] at hc
    simp only [List.mem_append, List.mem_cons, List.mem_map, List.not_mem_nil, or_false] at hc
    rcases hc with (⟨b, _, rfl⟩ | rfl | ⟨b, _, rfl⟩) | rfl
    · exact figN_lt b
    · decide
    · exact figN_lt b
    · decide
  have nice : Bnd 0 2002 (.str (textS A T)) := by
    refine Bnd.str ?_ (by have := textS_len A T; show (textS A T).length ≤ _; omega)
    simp only [okD, Bool.and_eq_true]
    refine ⟨?_, ?_⟩
    · show (textS A T).cps.all (· < 0x110000) = true
      rw [← Array.all_toList, List.all_eq_true]
      intro c hc
      have := all c hc
      exact decide_eq_true (by omega)
    · rw [List.all_eq_true]
      intro c hc
      have := all c hc
      exact decide_eq_true (by omega)
  exact (nice.nice (by decide) (by decide)).shows
theorem text_last (A T : List Bool) : cutS (textS A T) (some (-1)) none = ")" := by
  have l := textS_len A T
  have e : HT.sIx (textS A T).length 0 (some (-1)) = A.length + T.length + 1 := by
    show (if (-1 : Int) < 0 then ((-1 : Int) + ((textS A T).length : Int)).toNat else min (-1 : Int).toNat (textS A T).length) = _
    rw [if_pos (by decide), l]
    omega
  apply str_ext
  unfold cutS
  rw [HT.sIx_none, e, l, textS_cps]
  show ((_ : List Nat).drop _).take _ = _
  rw [List.drop_left' (by simp only [List.length_append, List.length_cons, List.length_map]; omega), show A.length + T.length + 2 - (A.length + T.length + 1) = 1 by omega]
  decide +kernel
theorem text_front (A T : List Bool) : cutS (textS A T) none (some (-1)) = figS A ++ "(" ++ figS T := by
  have l := textS_len A T
  have e : HT.sIx (textS A T).length (textS A T).length (some (-1)) = A.length + T.length + 1 := by
    show (if (-1 : Int) < 0 then ((-1 : Int) + ((textS A T).length : Int)).toNat else min (-1 : Int).toNat (textS A T).length) = _
    rw [if_pos (by decide), l]
    omega
  apply str_ext
  unfold cutS
  rw [HT.sIx_none, e, textS_cps, app_cps, app_cps, figS_cps, figS_cps]
  show ((_ : List Nat).drop 0).take _ = _
  rw [List.drop_zero, Nat.sub_zero, List.take_left' (by simp only [List.length_append, List.length_cons, List.length_map]; omega), show ("(" : Str).cps.toList = [40] by decide +kernel, List.append_assoc]
  rfl
theorem text_parts (A T : List Bool) : Txt.partition (figS A ++ "(" ++ figS T) "(" = (figS A, ("(" : Str), figS T) := by
  refine TL.partition_app (s := 40) (S := []) (by decide +kernel) fun h => ?_
  have h : 40 ∈ A.map figN := h
  obtain ⟨b, _, hb⟩ := List.mem_map.mp h
  cases b <;> cases hb
end Hw

set_option Elab.async false
set_option linter.all false
set_option maxRecDepth 100000
set_option maxHeartbeats 4000000

namespace K42
open PySem PySem.Spec PyProof.Rows L2 Hw
def topS (i : Nat) : Stmt := PySem.Challenge.pw_howeverwide_k42_whole_widths_counted.main.body.getD i (.Pass ⟨0, 0, 0, 0⟩)
abbrev s_is_whole : Stmt := topS 7
theorem sc_is_whole : FnScope ["value"] ["value"] (defScope s_is_whole) := ⟨rfl, rfl, rfl, by decide +kernel, rfl, by decide +kernel, by decide +kernel⟩
abbrev s_is_count : Stmt := topS 8
theorem sc_is_count : FnScope ["value"] ["value"] (defScope s_is_count) := ⟨rfl, rfl, rfl, by decide +kernel, rfl, by decide +kernel, by decide +kernel⟩
abbrev s_is_widths : Stmt := topS 10
theorem sc_is_widths : FnScope ["value"] ["value"] (defScope s_is_widths) := ⟨rfl, rfl, rfl, by decide +kernel, rfl, by decide +kernel, by decide +kernel⟩
abbrev s_are_told : Stmt := topS 11
theorem sc_are_told : FnScope ["value", "told"] ["value"] (defScope s_are_told) := ⟨rfl, rfl, rfl, by decide +kernel, rfl, by decide +kernel, by decide +kernel⟩
abbrev s_check_widths : Stmt := topS 12
theorem sc_check_widths : FnScope ["widths"] ["widths"] (defScope s_check_widths) := ⟨rfl, rfl, rfl, by decide +kernel, rfl, by decide +kernel, by decide +kernel⟩
abbrev s_check_wide : Stmt := topS 13
theorem sc_check_wide : FnScope ["width"] ["width"] (defScope s_check_wide) := ⟨rfl, rfl, rfl, by decide +kernel, rfl, by decide +kernel, by decide +kernel⟩
abbrev s_has_width : Stmt := topS 14
theorem sc_has_width : FnScope ["widths", "width"] ["widths", "width"] (defScope s_has_width) := ⟨rfl, rfl, rfl, by decide +kernel, rfl, by decide +kernel, by decide +kernel⟩
abbrev s_is_in : Stmt := topS 15
theorem sc_is_in : FnScope ["widths", "width", "ahead", "turn"] ["widths", "width"] (defScope s_is_in) := ⟨rfl, rfl, rfl, by decide +kernel, rfl, by decide +kernel, by decide +kernel⟩
abbrev s_made_plain : Stmt := topS 16
theorem sc_made_plain : FnScope ["ahead", "turn", "size", "less", "begin"] ["ahead", "turn"] (defScope s_made_plain) := ⟨rfl, rfl, rfl, by decide +kernel, rfl, by decide +kernel, by decide +kernel⟩
abbrev s_shortest_turn : Stmt := topS 17
theorem sc_shortest_turn : FnScope ["turn", "size"] ["turn"] (defScope s_shortest_turn) := ⟨rfl, rfl, rfl, by decide +kernel, rfl, by decide +kernel, by decide +kernel⟩
abbrev s_least_width : Stmt := topS 18
theorem sc_least_width : FnScope ["widths"] ["widths"] (defScope s_least_width) := ⟨rfl, rfl, rfl, by decide +kernel, rfl, by decide +kernel, by decide +kernel⟩
abbrev s_next_width : Stmt := topS 19
theorem sc_next_width : FnScope ["widths", "width"] ["widths", "width"] (defScope s_next_width) := ⟨rfl, rfl, rfl, by decide +kernel, rfl, by decide +kernel, by decide +kernel⟩
abbrev s_least_from : Stmt := topS 20
theorem sc_least_from : FnScope ["widths", "width", "later"] ["widths", "width"] (defScope s_least_from) := ⟨rfl, rfl, rfl, by decide +kernel, rfl, by decide +kernel, by decide +kernel⟩
abbrev s_greatest_width : Stmt := topS 21
theorem sc_greatest_width : FnScope ["widths", "found", "width", "told"] ["widths"] (defScope s_greatest_width) := ⟨rfl, rfl, rfl, by decide +kernel, rfl, by decide +kernel, by decide +kernel⟩
abbrev s_how_many_below : Stmt := topS 22
theorem sc_how_many_below : FnScope ["widths", "width", "ahead", "turn", "rounds", "rest"] ["widths", "width"] (defScope s_how_many_below) := ⟨rfl, rfl, rfl, by decide +kernel, rfl, by decide +kernel, by decide +kernel⟩
abbrev s_width_numbered : Stmt := topS 23
theorem sc_width_numbered : FnScope ["widths", "number", "ahead", "turn", "rounds", "rest"] ["widths", "number"] (defScope s_width_numbered) := ⟨rfl, rfl, rfl, by decide +kernel, rfl, by decide +kernel, by decide +kernel⟩
abbrev s_places_told : Stmt := topS 24
theorem sc_places_told : FnScope ["told", "place", "item"] ["told"] (defScope s_places_told) := ⟨rfl, rfl, rfl, by decide +kernel, rfl, by decide +kernel, by decide +kernel⟩
abbrev s_text_of_widths : Stmt := topS 25
theorem sc_text_of_widths : FnScope ["widths"] ["widths"] (defScope s_text_of_widths) := ⟨rfl, rfl, rfl, by decide +kernel, rfl, by decide +kernel, by decide +kernel⟩
abbrev s_figures_of : Stmt := topS 26
theorem sc_figures_of : FnScope ["told", "item"] ["told"] (defScope s_figures_of) := ⟨rfl, rfl, rfl, by decide +kernel, rfl, by decide +kernel, by decide +kernel⟩
abbrev s_widths_of_text : Stmt := topS 27
theorem sc_widths_of_text : FnScope ["text", "ahead", "_", "turn", "figure"] ["text"] (defScope s_widths_of_text) := ⟨rfl, rfl, rfl, by decide +kernel, rfl, by decide +kernel, by decide +kernel⟩
abbrev s_law_hash : Stmt := topS 29
theorem sc_law_hash : FnScope ["_law_seed", "_law_index", "_law_mixed"] ["_law_seed", "_law_index"] (defScope s_law_hash) := ⟨rfl, rfl, rfl, by decide +kernel, rfl, by decide +kernel, by decide +kernel⟩
abbrev s_law_random : Stmt := topS 30
theorem sc_law_random : FnScope ["_law_generator_here", "_law_bound", "_law_drawn", "_law_turn"] ["_law_generator_here", "_law_bound"] (defScope s_law_random) := ⟨rfl, rfl, rfl, by decide +kernel, rfl, by decide +kernel, by decide +kernel⟩
abbrev s_law_cell : Stmt := topS 31
theorem sc_law_cell : FnScope ["_law_script", "_law_index"] ["_law_script", "_law_index"] (defScope s_law_cell) := ⟨rfl, rfl, rfl, by decide +kernel, rfl, by decide +kernel, by decide +kernel⟩
abbrev s_law_generator : Stmt := topS 32
theorem sc_law_generator : FnScope ["_law_script", "_law_index", "_law_seed"] ["_law_script", "_law_index"] (defScope s_law_generator) := ⟨rfl, rfl, rfl, by decide +kernel, rfl, by decide +kernel, by decide +kernel⟩
abbrev s_law_item : Stmt := topS 33
theorem sc_law_item : FnScope ["_law_told", "_law_width_told", "_law_ahead", "_law_turn"] ["_law_told", "_law_width_told"] (defScope s_law_item) := ⟨rfl, rfl, rfl, by decide +kernel, rfl, by decide +kernel, by decide +kernel⟩
abbrev s_law_plain : Stmt := topS 34
theorem sc_law_plain : FnScope ["_law_told", "_law_ahead", "_law_turn", "_law_sizes", "_law_step", "_law_size"] ["_law_told"] (defScope s_law_plain) := ⟨rfl, rfl, rfl, by decide +kernel, rfl, by decide +kernel, by decide +kernel⟩
abbrev s_law_set : Stmt := topS 35
theorem sc_law_set : FnScope ["_law_generator_here", "_law_most", "_law_ahead", "_law_step"] ["_law_generator_here", "_law_most"] (defScope s_law_set) := ⟨rfl, rfl, rfl, by decide +kernel, rfl, by decide +kernel, by decide +kernel⟩
abbrev s_law_first : Stmt := topS 36
theorem sc_law_first : FnScope ["_law_told", "_law_low", "_law_high", "_law_at"] ["_law_told", "_law_low", "_law_high"] (defScope s_law_first) := ⟨rfl, rfl, rfl, by decide +kernel, rfl, by decide +kernel, by decide +kernel⟩
abbrev s_law_below : Stmt := topS 37
theorem sc_law_below : FnScope ["_law_told", "_law_far", "_law_ahead", "_law_turn", "_law_found", "_law_rest", "_law_item_here"] ["_law_told", "_law_far"] (defScope s_law_below) := ⟨rfl, rfl, rfl, by decide +kernel, rfl, by decide +kernel, by decide +kernel⟩
abbrev s_law_text : Stmt := topS 38
theorem sc_law_text : FnScope ["_law_told", "_law_item_here"] ["_law_told"] (defScope s_law_text) := ⟨rfl, rfl, rfl, by decide +kernel, rfl, by decide +kernel, by decide +kernel⟩
abbrev s_law_right : Stmt := topS 39
theorem sc_law_right : FnScope ["_law_generator_here", "_law_told", "_law_kept", "_law_far", "_law_at", "_law_places", "_law_step", "_law_due", "_law_found"] ["_law_generator_here"] (defScope s_law_right) := ⟨rfl, rfl, rfl, by decide +kernel, rfl, by decide +kernel, by decide +kernel⟩
abbrev s_law : Stmt := topS 40
theorem sc_law : FnScope ["_law_script", "_law_index", "_law_odd", "_law_threes", "_law_told"] ["_law_script"] (defScope s_law) := ⟨rfl, rfl, rfl, by decide +kernel, rfl, by decide +kernel, by decide +kernel⟩
/-- what the top has written -/
structure Tx (K : PySem.W.Frag) (mg : Str → Option Value) where
  a_is_whole : Addr
  d_is_whole : FuncData
  F_is_whole : DefAt K "is_whole" s_is_whole a_is_whole d_is_whole
  g_is_whole : mg "is_whole" = some (.ref a_is_whole)
  a_is_count : Addr
  d_is_count : FuncData
  F_is_count : DefAt K "is_count" s_is_count a_is_count d_is_count
  g_is_count : mg "is_count" = some (.ref a_is_count)
  a_is_widths : Addr
  d_is_widths : FuncData
  F_is_widths : DefAt K "is_widths" s_is_widths a_is_widths d_is_widths
  g_is_widths : mg "is_widths" = some (.ref a_is_widths)
  a_are_told : Addr
  d_are_told : FuncData
  F_are_told : DefAt K "are_told" s_are_told a_are_told d_are_told
  g_are_told : mg "are_told" = some (.ref a_are_told)
  a_check_widths : Addr
  d_check_widths : FuncData
  F_check_widths : DefAt K "check_widths" s_check_widths a_check_widths d_check_widths
  g_check_widths : mg "check_widths" = some (.ref a_check_widths)
  a_check_wide : Addr
  d_check_wide : FuncData
  F_check_wide : DefAt K "check_wide" s_check_wide a_check_wide d_check_wide
  g_check_wide : mg "check_wide" = some (.ref a_check_wide)
  a_has_width : Addr
  d_has_width : FuncData
  F_has_width : DefAt K "has_width" s_has_width a_has_width d_has_width
  g_has_width : mg "has_width" = some (.ref a_has_width)
  a_is_in : Addr
  d_is_in : FuncData
  F_is_in : DefAt K "is_in" s_is_in a_is_in d_is_in
  g_is_in : mg "is_in" = some (.ref a_is_in)
  a_made_plain : Addr
  d_made_plain : FuncData
  F_made_plain : DefAt K "made_plain" s_made_plain a_made_plain d_made_plain
  g_made_plain : mg "made_plain" = some (.ref a_made_plain)
  a_shortest_turn : Addr
  d_shortest_turn : FuncData
  F_shortest_turn : DefAt K "shortest_turn" s_shortest_turn a_shortest_turn d_shortest_turn
  g_shortest_turn : mg "shortest_turn" = some (.ref a_shortest_turn)
  a_least_width : Addr
  d_least_width : FuncData
  F_least_width : DefAt K "least_width" s_least_width a_least_width d_least_width
  g_least_width : mg "least_width" = some (.ref a_least_width)
  a_next_width : Addr
  d_next_width : FuncData
  F_next_width : DefAt K "next_width" s_next_width a_next_width d_next_width
  g_next_width : mg "next_width" = some (.ref a_next_width)
  a_least_from : Addr
  d_least_from : FuncData
  F_least_from : DefAt K "least_from" s_least_from a_least_from d_least_from
  g_least_from : mg "least_from" = some (.ref a_least_from)
  a_greatest_width : Addr
  d_greatest_width : FuncData
  F_greatest_width : DefAt K "greatest_width" s_greatest_width a_greatest_width d_greatest_width
  g_greatest_width : mg "greatest_width" = some (.ref a_greatest_width)
  a_how_many_below : Addr
  d_how_many_below : FuncData
  F_how_many_below : DefAt K "how_many_below" s_how_many_below a_how_many_below d_how_many_below
  g_how_many_below : mg "how_many_below" = some (.ref a_how_many_below)
  a_width_numbered : Addr
  d_width_numbered : FuncData
  F_width_numbered : DefAt K "width_numbered" s_width_numbered a_width_numbered d_width_numbered
  g_width_numbered : mg "width_numbered" = some (.ref a_width_numbered)
  a_places_told : Addr
  d_places_told : FuncData
  F_places_told : DefAt K "places_told" s_places_told a_places_told d_places_told
  g_places_told : mg "places_told" = some (.ref a_places_told)
  a_text_of_widths : Addr
  d_text_of_widths : FuncData
  F_text_of_widths : DefAt K "text_of_widths" s_text_of_widths a_text_of_widths d_text_of_widths
  g_text_of_widths : mg "text_of_widths" = some (.ref a_text_of_widths)
  a_figures_of : Addr
  d_figures_of : FuncData
  F_figures_of : DefAt K "figures_of" s_figures_of a_figures_of d_figures_of
  g_figures_of : mg "figures_of" = some (.ref a_figures_of)
  a_widths_of_text : Addr
  d_widths_of_text : FuncData
  F_widths_of_text : DefAt K "widths_of_text" s_widths_of_text a_widths_of_text d_widths_of_text
  g_widths_of_text : mg "widths_of_text" = some (.ref a_widths_of_text)
  a_law_hash : Addr
  d_law_hash : FuncData
  F_law_hash : DefAt K "_law_hash" s_law_hash a_law_hash d_law_hash
  g_law_hash : mg "_law_hash" = some (.ref a_law_hash)
  a_law_random : Addr
  d_law_random : FuncData
  F_law_random : DefAt K "_law_random" s_law_random a_law_random d_law_random
  g_law_random : mg "_law_random" = some (.ref a_law_random)
  a_law_cell : Addr
  d_law_cell : FuncData
  F_law_cell : DefAt K "_law_cell" s_law_cell a_law_cell d_law_cell
  g_law_cell : mg "_law_cell" = some (.ref a_law_cell)
  a_law_generator : Addr
  d_law_generator : FuncData
  F_law_generator : DefAt K "_law_generator" s_law_generator a_law_generator d_law_generator
  g_law_generator : mg "_law_generator" = some (.ref a_law_generator)
  a_law_item : Addr
  d_law_item : FuncData
  F_law_item : DefAt K "_law_item" s_law_item a_law_item d_law_item
  g_law_item : mg "_law_item" = some (.ref a_law_item)
  a_law_plain : Addr
  d_law_plain : FuncData
  F_law_plain : DefAt K "_law_plain" s_law_plain a_law_plain d_law_plain
  g_law_plain : mg "_law_plain" = some (.ref a_law_plain)
  a_law_set : Addr
  d_law_set : FuncData
  F_law_set : DefAt K "_law_set" s_law_set a_law_set d_law_set
  g_law_set : mg "_law_set" = some (.ref a_law_set)
  a_law_first : Addr
  d_law_first : FuncData
  F_law_first : DefAt K "_law_first" s_law_first a_law_first d_law_first
  g_law_first : mg "_law_first" = some (.ref a_law_first)
  a_law_below : Addr
  d_law_below : FuncData
  F_law_below : DefAt K "_law_below" s_law_below a_law_below d_law_below
  g_law_below : mg "_law_below" = some (.ref a_law_below)
  a_law_text : Addr
  d_law_text : FuncData
  F_law_text : DefAt K "_law_text" s_law_text a_law_text d_law_text
  g_law_text : mg "_law_text" = some (.ref a_law_text)
  a_law_right : Addr
  d_law_right : FuncData
  F_law_right : DefAt K "_law_right" s_law_right a_law_right d_law_right
  g_law_right : mg "_law_right" = some (.ref a_law_right)
  a_law : Addr
  d_law : FuncData
  F_law : DefAt K "law" s_law a_law d_law
  g_law : mg "law" = some (.ref a_law)
  z_all : mg "all" = none
  z_any : mg "any" = none
  z_bool : mg "bool" = none
  z_divmod : mg "divmod" = none
  z_enumerate : mg "enumerate" = none
  z_int : mg "int" = none
  z_isinstance : mg "isinstance" = none
  z_len : mg "len" = none
  z_list : mg "list" = none
  z_max : mg "max" = none
  z_range : mg "range" = none
  z_repr : mg "repr" = none
  z_str : mg "str" = none
  z_sum : mg "sum" = none
  z_tuple : mg "tuple" = none
section
variable {K : PySem.W.Frag} {mg : Str → Option Value}
theorem Tx.b_is_whole (T : Tx K mg) : Binds K T.d_is_whole ["value"] [] := T.F_is_whole.bindsN fun _ _ _ _ _ _ us hl => match us, hl with | [_], _ => rfl
theorem Tx.b_is_count (T : Tx K mg) : Binds K T.d_is_count ["value"] [] := T.F_is_count.bindsN fun _ _ _ _ _ _ us hl => match us, hl with | [_], _ => rfl
theorem Tx.b_is_widths (T : Tx K mg) : Binds K T.d_is_widths ["value"] [] := T.F_is_widths.bindsN fun _ _ _ _ _ _ us hl => match us, hl with | [_], _ => rfl
theorem Tx.b_are_told (T : Tx K mg) : Binds K T.d_are_told ["value"] [] := T.F_are_told.bindsN fun _ _ _ _ _ _ us hl => match us, hl with | [_], _ => rfl
theorem Tx.b_check_widths (T : Tx K mg) : Binds K T.d_check_widths ["widths"] [] := T.F_check_widths.bindsN fun _ _ _ _ _ _ us hl => match us, hl with | [_], _ => rfl
theorem Tx.b_check_wide (T : Tx K mg) : Binds K T.d_check_wide ["width"] [] := T.F_check_wide.bindsN fun _ _ _ _ _ _ us hl => match us, hl with | [_], _ => rfl
theorem Tx.b_has_width (T : Tx K mg) : Binds K T.d_has_width ["widths", "width"] [] := T.F_has_width.bindsN fun _ _ _ _ _ _ us hl => match us, hl with | [_, _], _ => rfl
theorem Tx.b_is_in (T : Tx K mg) : Binds K T.d_is_in ["widths", "width"] [] := T.F_is_in.bindsN fun _ _ _ _ _ _ us hl => match us, hl with | [_, _], _ => rfl
theorem Tx.b_made_plain (T : Tx K mg) : Binds K T.d_made_plain ["ahead", "turn"] [] := T.F_made_plain.bindsN fun _ _ _ _ _ _ us hl => match us, hl with | [_, _], _ => rfl
theorem Tx.b_shortest_turn (T : Tx K mg) : Binds K T.d_shortest_turn ["turn"] [] := T.F_shortest_turn.bindsN fun _ _ _ _ _ _ us hl => match us, hl with | [_], _ => rfl
theorem Tx.b_least_width (T : Tx K mg) : Binds K T.d_least_width ["widths"] [] := T.F_least_width.bindsN fun _ _ _ _ _ _ us hl => match us, hl with | [_], _ => rfl
theorem Tx.b_next_width (T : Tx K mg) : Binds K T.d_next_width ["widths", "width"] [] := T.F_next_width.bindsN fun _ _ _ _ _ _ us hl => match us, hl with | [_, _], _ => rfl
theorem Tx.b_least_from (T : Tx K mg) : Binds K T.d_least_from ["widths", "width"] [] := T.F_least_from.bindsN fun _ _ _ _ _ _ us hl => match us, hl with | [_, _], _ => rfl
theorem Tx.b_greatest_width (T : Tx K mg) : Binds K T.d_greatest_width ["widths"] [] := T.F_greatest_width.bindsN fun _ _ _ _ _ _ us hl => match us, hl with | [_], _ => rfl
theorem Tx.b_how_many_below (T : Tx K mg) : Binds K T.d_how_many_below ["widths", "width"] [] := T.F_how_many_below.bindsN fun _ _ _ _ _ _ us hl => match us, hl with | [_, _], _ => rfl
theorem Tx.b_width_numbered (T : Tx K mg) : Binds K T.d_width_numbered ["widths", "number"] [] := T.F_width_numbered.bindsN fun _ _ _ _ _ _ us hl => match us, hl with | [_, _], _ => rfl
theorem Tx.b_places_told (T : Tx K mg) : Binds K T.d_places_told ["told"] [] := T.F_places_told.bindsN fun _ _ _ _ _ _ us hl => match us, hl with | [_], _ => rfl
theorem Tx.b_text_of_widths (T : Tx K mg) : Binds K T.d_text_of_widths ["widths"] [] := T.F_text_of_widths.bindsN fun _ _ _ _ _ _ us hl => match us, hl with | [_], _ => rfl
theorem Tx.b_figures_of (T : Tx K mg) : Binds K T.d_figures_of ["told"] [] := T.F_figures_of.bindsN fun _ _ _ _ _ _ us hl => match us, hl with | [_], _ => rfl
theorem Tx.b_widths_of_text (T : Tx K mg) : Binds K T.d_widths_of_text ["text"] [] := T.F_widths_of_text.bindsN fun _ _ _ _ _ _ us hl => match us, hl with | [_], _ => rfl
theorem Tx.b_law_hash (T : Tx K mg) : Binds K T.d_law_hash ["_law_seed", "_law_index"] [] := T.F_law_hash.bindsN fun _ _ _ _ _ _ us hl => match us, hl with | [_, _], _ => rfl
theorem Tx.b_law_random (T : Tx K mg) : Binds K T.d_law_random ["_law_generator_here", "_law_bound"] [] := T.F_law_random.bindsN fun _ _ _ _ _ _ us hl => match us, hl with | [_, _], _ => rfl
theorem Tx.b_law_cell (T : Tx K mg) : Binds K T.d_law_cell ["_law_script", "_law_index"] [] := T.F_law_cell.bindsN fun _ _ _ _ _ _ us hl => match us, hl with | [_, _], _ => rfl
theorem Tx.b_law_generator (T : Tx K mg) : Binds K T.d_law_generator ["_law_script", "_law_index"] [] := T.F_law_generator.bindsN fun _ _ _ _ _ _ us hl => match us, hl with | [_, _], _ => rfl
theorem Tx.b_law_item (T : Tx K mg) : Binds K T.d_law_item ["_law_told", "_law_width_told"] [] := T.F_law_item.bindsN fun _ _ _ _ _ _ us hl => match us, hl with | [_, _], _ => rfl
theorem Tx.b_law_plain (T : Tx K mg) : Binds K T.d_law_plain ["_law_told"] [] := T.F_law_plain.bindsN fun _ _ _ _ _ _ us hl => match us, hl with | [_], _ => rfl
theorem Tx.b_law_set (T : Tx K mg) : Binds K T.d_law_set ["_law_generator_here", "_law_most"] [] := T.F_law_set.bindsN fun _ _ _ _ _ _ us hl => match us, hl with | [_, _], _ => rfl
theorem Tx.b_law_first (T : Tx K mg) : Binds K T.d_law_first ["_law_told", "_law_low", "_law_high"] [] := T.F_law_first.bindsN fun _ _ _ _ _ _ us hl => match us, hl with | [_, _, _], _ => rfl
theorem Tx.b_law_below (T : Tx K mg) : Binds K T.d_law_below ["_law_told", "_law_far"] [] := T.F_law_below.bindsN fun _ _ _ _ _ _ us hl => match us, hl with | [_, _], _ => rfl
theorem Tx.b_law_text (T : Tx K mg) : Binds K T.d_law_text ["_law_told"] [] := T.F_law_text.bindsN fun _ _ _ _ _ _ us hl => match us, hl with | [_], _ => rfl
theorem Tx.b_law_right (T : Tx K mg) : Binds K T.d_law_right ["_law_generator_here"] [] := T.F_law_right.bindsN fun _ _ _ _ _ _ us hl => match us, hl with | [_], _ => rfl
theorem Tx.b_law (T : Tx K mg) : Binds K T.d_law ["_law_script"] [] := T.F_law.bindsN fun _ _ _ _ _ _ us hl => match us, hl with | [_], _ => rfl
theorem Tx.w_greatest_width_widths (T : Tx K mg) : KwB T.d_greatest_width ["widths"] ["widths"] (fun ws => match ws with | [x0] => [x0] | _ => []) (fun ws => match ws with | [x0] => [x0] | _ => []) := by
  obtain ⟨oc, od, dV, kV, doc, pm, an, cdv, ct, osl, e, _, _, hD, _⟩ := T.F_greatest_width.ex
  have ed : dV = .none := hD.elim And.right fun z => (z.1 rfl).elim
  subst ed
  refine ⟨fun s ws hl => ?_, fun {zs ws} hl r => ?_⟩
  · rw [e]
    match ws, hl with | [_], _ => exact .of_eq rfl
  · match zs, ws, r with | [_], [_], .cons r0 .nil => exact .cons r0 .nil
theorem Tx.w_how_many_below_width_widths (T : Tx K mg) : KwB T.d_how_many_below ["widths", "width"] ["width", "widths"] (fun ws => match ws with | [x0, x1] => [x1, x0] | _ => []) (fun ws => match ws with | [x0, x1] => [x1, x0] | _ => []) := by
  obtain ⟨oc, od, dV, kV, doc, pm, an, cdv, ct, osl, e, _, _, hD, _⟩ := T.F_how_many_below.ex
  have ed : dV = .none := hD.elim And.right fun z => (z.1 rfl).elim
  subst ed
  refine ⟨fun s ws hl => ?_, fun {zs ws} hl r => ?_⟩
  · rw [e]
    match ws, hl with | [_, _], _ => exact .of_eq rfl
  · match zs, ws, r with | [_, _], [_, _], .cons r0 (.cons r1 .nil) => exact .cons r1 (.cons r0 .nil)
theorem Tx.w_least_width_widths (T : Tx K mg) : KwB T.d_least_width ["widths"] ["widths"] (fun ws => match ws with | [x0] => [x0] | _ => []) (fun ws => match ws with | [x0] => [x0] | _ => []) := by
  obtain ⟨oc, od, dV, kV, doc, pm, an, cdv, ct, osl, e, _, _, hD, _⟩ := T.F_least_width.ex
  have ed : dV = .none := hD.elim And.right fun z => (z.1 rfl).elim
  subst ed
  refine ⟨fun s ws hl => ?_, fun {zs ws} hl r => ?_⟩
  · rw [e]
    match ws, hl with | [_], _ => exact .of_eq rfl
  · match zs, ws, r with | [_], [_], .cons r0 .nil => exact .cons r0 .nil
theorem Tx.w_next_width_width_widths (T : Tx K mg) : KwB T.d_next_width ["widths", "width"] ["width", "widths"] (fun ws => match ws with | [x0, x1] => [x1, x0] | _ => []) (fun ws => match ws with | [x0, x1] => [x1, x0] | _ => []) := by
  obtain ⟨oc, od, dV, kV, doc, pm, an, cdv, ct, osl, e, _, _, hD, _⟩ := T.F_next_width.ex
  have ed : dV = .none := hD.elim And.right fun z => (z.1 rfl).elim
  subst ed
  refine ⟨fun s ws hl => ?_, fun {zs ws} hl r => ?_⟩
  · rw [e]
    match ws, hl with | [_, _], _ => exact .of_eq rfl
  · match zs, ws, r with | [_, _], [_, _], .cons r0 (.cons r1 .nil) => exact .cons r1 (.cons r0 .nil)
theorem Tx.w_text_of_widths_widths (T : Tx K mg) : KwB T.d_text_of_widths ["widths"] ["widths"] (fun ws => match ws with | [x0] => [x0] | _ => []) (fun ws => match ws with | [x0] => [x0] | _ => []) := by
  obtain ⟨oc, od, dV, kV, doc, pm, an, cdv, ct, osl, e, _, _, hD, _⟩ := T.F_text_of_widths.ex
  have ed : dV = .none := hD.elim And.right fun z => (z.1 rfl).elim
  subst ed
  refine ⟨fun s ws hl => ?_, fun {zs ws} hl r => ?_⟩
  · rw [e]
    match ws, hl with | [_], _ => exact .of_eq rfl
  · match zs, ws, r with | [_], [_], .cons r0 .nil => exact .cons r0 .nil
theorem Tx.w_width_numbered_number_widths (T : Tx K mg) : KwB T.d_width_numbered ["widths", "number"] ["number", "widths"] (fun ws => match ws with | [x0, x1] => [x1, x0] | _ => []) (fun ws => match ws with | [x0, x1] => [x1, x0] | _ => []) := by
  obtain ⟨oc, od, dV, kV, doc, pm, an, cdv, ct, osl, e, _, _, hD, _⟩ := T.F_width_numbered.ex
  have ed : dV = .none := hD.elim And.right fun z => (z.1 rfl).elim
  subst ed
  refine ⟨fun s ws hl => ?_, fun {zs ws} hl r => ?_⟩
  · rw [e]
    match ws, hl with | [_, _], _ => exact .of_eq rfl
  · match zs, ws, r with | [_, _], [_, _], .cons r0 (.cons r1 .nil) => exact .cons r1 (.cons r0 .nil)
theorem Tx.w_widths_of_text_text (T : Tx K mg) : KwB T.d_widths_of_text ["text"] ["text"] (fun ws => match ws with | [x0] => [x0] | _ => []) (fun ws => match ws with | [x0] => [x0] | _ => []) := by
  obtain ⟨oc, od, dV, kV, doc, pm, an, cdv, ct, osl, e, _, _, hD, _⟩ := T.F_widths_of_text.ex
  have ed : dV = .none := hD.elim And.right fun z => (z.1 rfl).elim
  subst ed
  refine ⟨fun s ws hl => ?_, fun {zs ws} hl r => ?_⟩
  · rw [e]
    match ws, hl with | [_], _ => exact .of_eq rfl
  · match zs, ws, r with | [_], [_], .cons r0 .nil => exact .cons r0 .nil
end

/-! ### the law's own random numbers -/
section
variable {P : Program} {w : World} {K : PySem.W.Frag} {mg : Str → Option Value} {base : Heap}
/-- the seed is a rest by 2147483647, the index not far -/
def spHash : Sp := fun vs H Q _ => ∃ a b : Int, vs = [.int a, .int b] ∧ 0 ≤ a ∧ a < 2147483648 ∧ 0 ≤ b ∧ b < 4294967296 ∧ ∀ r : Int, 0 ≤ r → r < 2147483647 → Q (.int r) H
theorem nlt {i : Int} {n : Nat} (h0 : 0 ≤ i) (h : i < 2 ^ n) : i.natAbs < 2 ^ n := by
  have e : ((2 ^ n : Nat) : Int) = (2 : Int) ^ n := by rw [Int.natCast_pow]; rfl
  omega
theorem ok_law_hash (T : Tx K mg) : FnG P w K mg base CX0 1 T.a_law_hash T.d_law_hash ["_law_seed", "_law_index"] spHash := by
  refine bodyG0 T.F_law_hash sc_law_hash (fun vs H Q E h => ?_) (fun cdv A outer s H vs Q E gd hr h => ?_)
  · obtain ⟨a, b, rfl, _⟩ := h; rfl
  · obtain ⟨a, b, rfl, a0, a1, b0, b1, q⟩ := h
    refine ⟨_, (pss_cons (ps_set (i := 2) sc_law_hash.nd rfl (Or.inl rfl) (pe_op op_mod (pe_callTy call_int1 (by rfl) T.z_int (by decide +kernel) (pa_cons (pe_op op_add (pe_op op_add (pe_op op_add (pe_op op_mulX (pv 0) pe_int) (pe_op op_mulX (pe_op op_mulX pe_int (pv 1)) (pv 1))) (pe_op op_mulX pe_int (pv 1))) pe_int) pa_nil)) pe_int))
      (pss_cons (ps_set (i := 2) sc_law_hash.nd rfl (Or.inl rfl) (pe_op op_mod (pe_callTy call_int1 (by rfl) T.z_int (by decide +kernel) (pa_cons (pe_op op_add (pe_op op_add (pe_op op_mulX (pv 2) (pv 2)) (pe_op op_mulX pe_int (pv 1))) pe_int) pa_nil)) pe_int))
      (pss_one (ps_ret (pe_op op_mod (pe_callTy call_int1 (by rfl) T.z_int (by decide +kernel) (pa_cons (pe_op op_mulX (pv 2) pe_int) pa_nil)) pe_int))))), ?_⟩
    have ha : a.natAbs < 2 ^ 31 := nlt a0 a1
    have hb : b.natAbs < 2 ^ 32 := nlt b0 b1
    refine ⟨_, rfl, _, _, rfl, rfl, mulx_ok ha (b := 31) (by decide) (by decide), _, rfl, _, _, rfl, rfl, mulx_ok (a := 31) (by decide) hb (by decide), _, rfl, _, _, rfl, rfl, mulx_ok (wide_lt (a := 31) (by decide) hb) hb (by decide), _, _, rfl, rfl, _, rfl, _, _, rfl, rfl, mulx_ok (a := 31) (by decide) hb (by decide), _, _, rfl, rfl, _, _, rfl, rfl, .inl ⟨_, rfl, _, _, rfl, rfl, (by decide : (0 : Int) < 2147483629), ?_⟩⟩
    dsimp only
    generalize (a * 1140671 + 27644437 * b * b + 131 * b + 19) = x1
    have x0 := Int.emod_nonneg x1 (by decide : (2147483629 : Int) ≠ 0)
    have x2 := Int.emod_lt_of_pos x1 (by decide : (0 : Int) < 2147483629)
    generalize x1 % 2147483629 = x at x0 x2
    have hx : x.natAbs < 2 ^ 31 := nlt x0 (by omega)
    refine ⟨_, rfl, _, rfl, _, _, rfl, rfl, mulx_ok hx hx (by decide), _, rfl, _, _, rfl, rfl, mulx_ok (a := 31) (by decide) hb (by decide), _, _, rfl, rfl, _, _, rfl, rfl, .inl ⟨_, rfl, _, _, rfl, rfl, (by decide : (0 : Int) < 2147483587), ?_⟩⟩
    dsimp only
    generalize (x * x + 62089 * b + 32416187) = y1
    have y0 := Int.emod_nonneg y1 (by decide : (2147483587 : Int) ≠ 0)
    have y2 := Int.emod_lt_of_pos y1 (by decide : (0 : Int) < 2147483587)
    generalize y1 % 2147483587 = y at y0 y2
    have hy : y.natAbs < 2 ^ 31 := nlt y0 (by omega)
    refine ⟨_, rfl, _, _, rfl, rfl, mulx_ok hy (b := 31) (by decide) (by decide), .inl ⟨_, rfl, _, _, rfl, rfl, (by decide : (0 : Int) < 2147483647), ?_⟩⟩
    exact q _ (Int.emod_nonneg _ (by decide)) (Int.emod_lt_of_pos _ (by decide))

/-- the generator: what is left of a great seed, the seed's rest, the index -/
structure GenOk (s t c m : Int) : Prop where
  s0 : 0 ≤ s
  s1 : s < 2 ^ 2000
  t0 : 0 ≤ t
  t1 : t < 2147483648
  c0 : 0 ≤ c
  c1 : c ≤ m
def genL (s t c : Int) : HO := .lst [.int s, .int t, .int c]
/-- a draw below a bound: the generator's list at a is another one; the index grows by a hundred at most -/
def spRandom : Sp := fun vs H Q _ => ∃ (a : Addr) (b s t c m : Int), vs = [.ref a, .int b] ∧ H a = some (genL s t c) ∧ GenOk s t c m ∧ m + 100 < 4294967296 ∧ 0 < b ∧ b < 2 ^ 2000 ∧
  ∀ (r s' c' : Int), 0 ≤ r → r < b → GenOk s' t c' (m + 100) → Q (.int r) (upd H a (genL s' t c'))
theorem bits_le_of {b : Int} {n : Nat} (h0 : 0 ≤ b) (h : b < 2 ^ n) : Builtin.Int.intBits b ≤ n := PyProof.Rows.intBits_le (nlt h0 h)
theorem ok_law_random (T : Tx K mg) : FnG P w K mg base CX0 2 T.a_law_random T.d_law_random ["_law_generator_here", "_law_bound"] spRandom := by
  have G_law_hash := ok_law_hash (P := P) (w := w) (base := base) T
  refine bodyG0 T.F_law_random sc_law_random (fun vs H Q E h => ?_) (fun cdv A outer s H vs Q E gd hr h => ?_)
  · obtain ⟨a, b, s, t, c, m, rfl, _⟩ := h; rfl
  · obtain ⟨a, b, s, t, c, m, rfl, hg, ok, hm, b0, b1, q⟩ := h
    obtain ⟨s0, s1, t0, t1, c0, c1⟩ := ok
    have sq : SqL K H a [.int s, .int t, .int c] := .inl (.inl hg)
    refine ⟨_, (pss_cons (ps_if (pt_cmpR op_gt (pe_ix (ix_listK (K := K) rfl) (pv 0) pe_int (fun _ _ => rfl)) pe_int (nomark _)) (pss_cons (ps_set (i := 2) sc_law_random.nd rfl (Or.inl rfl) (pe_op op_mod (pe_callTy call_int1 (by rfl) T.z_int (by decide +kernel) (pa_cons (pe_ix (ix_listK (K := K) rfl) (pv 0) pe_int (fun _ _ => rfl)) pa_nil)) (pv 1)))
      (pss_cons (ps_asg (pe_op op_fdivW (pe_ix (ix_listK (K := K) rfl) (pv 0) pe_int (fun _ _ => rfl)) (pv 1)) (pg_sub (pv 0) pe_int set_list))
      (pss_one (ps_ret (pv 2))))) pss_nil)
      (pss_cons (ps_set (i := 2) sc_law_random.nd rfl (Or.inl rfl) pe_int)
      (pss_cons (ps_for PassesOwn.never rfl (pi_range1 (by rfl) T.z_range (pa_cons (pe_op op_add pe_int (pe_op op_fdivW (pe_bits (pv 1)) pe_int)) pa_nil)) (pg_name (i := 3) sc_law_random.nd rfl (Or.inl rfl)) (pss_cons (ps_asg (pe_op op_add (pe_ix (ix_listK (K := K) rfl) (pv 0) pe_int (fun _ _ => rfl)) pe_int) (pg_sub (pv 0) pe_int set_list))
      (pss_one (ps_set (i := 2) sc_law_random.nd rfl (Or.inl rfl) (pe_op op_add (pe_op op_mulX (pv 2) pe_int) (pe_g G_law_hash gd (hr.mono (by decide)) (by rfl) T.g_law_hash T.F_law_hash.kp T.b_law_hash .nil pass0 (pa_cons (pe_ix (ix_listK (K := K) rfl) (pv 0) pe_int (fun _ _ => rfl)) (pa_cons (pe_ix (ix_listK (K := K) rfl) (pv 0) pe_int (fun _ _ => rfl)) pa_nil))))))))
      (pss_one (ps_ret (pe_op op_mod (pe_callTy call_int1 (by rfl) T.z_int (by decide +kernel) (pa_cons (pv 2) pa_nil)) (pv 1))))))), ?_⟩
    refine ⟨_, rfl, _, _, _, _, rfl, rfl, sq, atI_nat (j := 0) rfl, _, _, rfl, rfl, _, rfl, ?_⟩
    by_cases hs : 0 < s
    · rw [decide_eq_true hs]
      refine iteT ⟨_, rfl, _, _, _, _, rfl, rfl, sq, atI_nat (j := 0) rfl, .inl ⟨_, rfl, _, rfl, _, _, rfl, rfl, b0, ?_⟩⟩
      refine ⟨_, rfl, _, _, _, _, rfl, rfl, sq, atI_nat (j := 0) rfl, _, rfl, _, _, rfl, rfl, wide_div b0 (nlt (Int.le_of_lt b0) b1) (by decide) (by decide), ?_⟩
      refine ⟨_, rfl, a, _, _, 0, rfl, rfl, hg, rfl, ?_⟩
      refine ⟨_, rfl, ?_⟩
      have d0 := Int.ediv_nonneg s0 (Int.le_of_lt b0)
      have d1 : s / b ≤ s := Int.ediv_le_self b s0
      exact q _ _ _ (Int.emod_nonneg _ (by omega)) (Int.emod_lt_of_pos _ b0) ⟨d0, by omega, t0, t1, c0, by omega⟩
    · rw [decide_eq_false hs]
      refine iteF ?_
      have hbits := bits_le_of (Int.le_of_lt b0) b1
      have hq : ((1 : Int) + (Builtin.Int.intBits b : Nat) / 30) = ((1 + Builtin.Int.intBits b / 30 : Nat) : Int) := by rw [Int.natCast_add, Int.natCast_ediv]; rfl
      refine ⟨_, rfl, b, rfl, _, _, rfl, rfl, wide_div (b := 5) (by decide) (by decide) (by decide) (by decide), _, _, rfl, rfl, ((1 + Builtin.Int.intBits b / 30 : Nat) : Int), by rw [← hq], by omega, by omega, ?_⟩
      refine for_range (n := 1 + Builtin.Int.intBits b / 30) (fun i σ H' => ∃ (d : Int) (y : Option V), σ = [some (.ref a), some (.int b), some (.int d), y] ∧ H' = upd H a (genL s t (c + i)) ∧ 0 ≤ d ∧ d < 2 ^ (31 * i)) ⟨0, none, rfl, ?_, by decide, by decide⟩ ?_ ?_
      · rw [show c + ((0 : Nat) : Int) = c by omega]
        funext x
        unfold upd
        by_cases hx : x = a
        · rw [if_pos hx, hx, hg]
        · rw [if_neg hx]
      · rintro i σ H' hi ⟨d, y, rfl, rfl, d0, d1⟩
        have up : (upd H a (genL s t (c + i))) a = some (genL s t (c + i)) := upd_same
        have sq1 : SqL K (upd H a (genL s t (c + i))) a [.int s, .int t, .int (c + i)] := .inl (.inl up)
        refine ⟨_, rfl, _, _, _, _, rfl, rfl, sq1, atI_nat (j := 2) rfl, _, _, rfl, rfl, _, rfl, a, _, _, 2, rfl, rfl, up, rfl, ?_⟩
        have up2 : (upd (upd H a (genL s t (c + i))) a (.lst ([V.int s, .int t, .int (c + i)].set 2 (.int (c + i + 1))))) a = some (genL s t (c + i + 1)) := upd_same
        have sq2 : SqL K (upd (upd H a (genL s t (c + i))) a (.lst ([V.int s, .int t, .int (c + i)].set 2 (.int (c + i + 1))))) a [.int s, .int t, .int (c + i + 1)] := .inl (.inl up2)
        refine ⟨_, rfl, _, _, rfl, rfl, mulx_ok (nlt d0 d1) (b := 31) (by decide) (by omega), ?_⟩
        refine ⟨_, rfl, _, _, _, _, rfl, rfl, sq2, atI_nat (j := 1) rfl, _, rfl, _, _, _, _, rfl, rfl, sq2, atI_nat (j := 2) rfl, _, _, rfl, t0, t1, by omega, by omega, fun r r0 r1 => ⟨_, _, rfl, rfl, ?_⟩⟩
        refine ⟨d * 2147483587 + r, _, rfl, ?_, by omega, ?_⟩
        · rw [show c + ((i + 1 : Nat) : Int) = c + i + 1 by omega]
          exact upd_upd
        · have e : (2 : Int) ^ (31 * (i + 1)) = 2 ^ (31 * i) * 2147483648 := by
            rw [Nat.mul_add, Int.pow_add]; rfl
          have p : (1 : Int) ≤ 2 ^ (31 * i) := Int.pow_pos (by decide)
          rw [e]
          generalize (2 : Int) ^ (31 * i) = B at d1 p
          omega
      · rintro σ H' ⟨d, y, rfl, rfl, d0, d1⟩
        refine ⟨_, rfl, .inl ⟨_, rfl, _, rfl, _, _, rfl, rfl, b0, ?_⟩⟩
        exact q _ _ _ (Int.emod_nonneg _ (by omega)) (Int.emod_lt_of_pos _ b0) ⟨s0, s1, t0, t1, by omega, by omega⟩

theorem same_new {H : Hp} {p : Addr} {o : HO} (h : H p = none) : Same H (upd H p o) := fun b x e => by
  rw [upd_ne (ne_of_none e h)]
  exact e
theorem cut_first {α : Type} (f : α → V) (xs : List α) : cutV (xs.map f) none (some 1) = (xs.take 1).map f := by
  unfold cutV
  rw [HT.sIx_none, show HT.sIx (xs.map f).length (xs.map f).length (some 1) = min 1 (xs.map f).length from HT.sIx_nat _ _ 1]
  cases xs with
  | nil => rfl
  | cons x r =>
    rw [show min 1 ((x :: r).map f).length = 1 by rw [List.length_map, List.length_cons]; omega]
    rfl
def spCell (K : PySem.W.Frag) : Sp := fun vs H Q _ => ∃ (a : Addr) (ns : List Int) (j : Nat), vs = [.ref a, .int j] ∧ SqL K H a (ns.map V.int) ∧ ∀ (r : Int) (H' : Hp), Same H H' → Q (.int r) H'
theorem ok_law_cell (T : Tx K mg) : FnG P w K mg base CX0 1 T.a_law_cell T.d_law_cell ["_law_script", "_law_index"] (spCell K) := by
  refine bodyG0 T.F_law_cell sc_law_cell (fun vs H Q E h => ?_) (fun cdv A outer s H vs Q E gd hr h => ?_)
  · obtain ⟨a, ns, j, rfl, _⟩ := h; rfl
  · obtain ⟨a, ns, j, rfl, hS, q⟩ := h
    refine ⟨_, (pss_cons (ps_if (pt_cmpR op_lt (pv 1) (pe_callB (call_lenK (K := K) rfl) (by rfl) T.z_len (by decide +kernel) (pa_cons (pv 0) pa_nil)) (nomark _)) (pss_one (ps_ret (pe_ix (ix_listK (K := K) rfl) (pv 0) (pv 1) (fun _ _ => rfl)))) pss_nil)
      (pss_one (ps_ret (pe_op op_mod (pe_callB (cr_sumK (K := K) rfl rfl) (by rfl) T.z_sum (by decide +kernel) (pa_cons (pe_slice (sl_listK (K := K) rfl) (pv 0) po_none (po_some pe_int)) pa_nil)) pe_int)))), ?_⟩
    refine ⟨_, rfl, _, rfl, a, _, rfl, .inl hS, _, _, rfl, rfl, _, rfl, ?_⟩
    by_cases hj : ((j : Nat) : Int) < ((ns.map V.int).length : Nat)
    · rw [decide_eq_true hj]
      have hj2 : j < ns.length := by rw [List.length_map] at hj; omega
      refine iteT ⟨_, rfl, _, rfl, _, _, _, _, rfl, rfl, hS, atI_nat (j := j) (v := .int (ns[j])) ?_, q _ _ (Same.refl H)⟩
      rw [List.getElem?_map, List.getElem?_eq_getElem hj2]
      rfl
    · rw [decide_eq_false hj]
      refine iteF ⟨_, rfl, 1, rfl, a, _, rfl, hS, fun p hp => ?_⟩
      refine ⟨p, ns.take 1, rfl, .inl (.inl ?_), _, _, rfl, rfl, (by decide : (0 : Int) < 1000003), q _ _ (same_new hp)⟩
      rw [upd_same, cut_first]
def spGenerator (K : PySem.W.Frag) : Sp := fun vs H Q _ => ∃ (a : Addr) (ns : List Int) (j : Nat), vs = [.ref a, .int j] ∧ j ≤ 1000 ∧ SqL K H a (ns.map V.int) ∧
  ∀ (g : Addr) (H' : Hp) (s t c : Int), Same H H' → H g = none → H' g = some (genL s t c) → GenOk s t c (1000 * j) → Q (.ref g) H'
theorem ok_law_generator (T : Tx K mg) : FnG P w K mg base CX0 2 T.a_law_generator T.d_law_generator ["_law_script", "_law_index"] (spGenerator K) := by
  have G_law_cell := ok_law_cell (P := P) (w := w) (base := base) T
  refine bodyG0 T.F_law_generator sc_law_generator (fun vs H Q E h => ?_) (fun cdv A outer s H vs Q E gd hr h => ?_)
  · obtain ⟨a, ns, j, rfl, _⟩ := h; rfl
  · obtain ⟨a, ns, j, rfl, hj, hS, q⟩ := h
    refine ⟨_, (pss_cons (ps_set (i := 2) sc_law_generator.nd rfl (Or.inl rfl) (pe_g G_law_cell gd (hr.mono (by decide)) (by rfl) T.g_law_cell T.F_law_cell.kp T.b_law_cell .nil pass0 (pa_cons (pv 0) (pa_cons (pv 1) pa_nil))))
      (pss_one (ps_ret (pe_lst (pa_cons (pe_op op_mod (pe_callTy call_int1 (by rfl) T.z_int (by decide +kernel) (pa_cons (pe_callB (call_max2 rfl) (by rfl) T.z_max (by decide +kernel) (pa_cons (pe_op op_sub (pv 2) (pe_op op_powW pe_int pe_int)) (pa_cons pe_int pa_nil))) pa_nil)) (pe_op op_powW (pe_op op_powW pe_int pe_int) pe_int)) (pa_cons (pe_op op_mod (pe_callTy call_int1 (by rfl) T.z_int (by decide +kernel) (pa_cons (pv 2) pa_nil)) pe_int) (pa_cons (pe_op op_mulX pe_int (pv 1)) pa_nil))))))), ?_⟩
    refine ⟨_, rfl, _, rfl, a, ns, j, rfl, hS, fun r H' sm => ?_⟩
    have e10 : ((10 : Int) ^ 60).natAbs < 2 ^ 200 := by decide +kernel
    refine ⟨_, rfl, _, _, rfl, rfl, powW_ok (n := 4) (j := 18) (by decide) (by decide), _, _, rfl, rfl, _, _, rfl, .inl ⟨_, rfl, ?_⟩⟩
    refine ⟨_, _, rfl, rfl, powW_ok (n := 4) (j := 60) (by decide) (by decide), _, _, rfl, rfl, powW_ok (n := 200) (j := 10) e10 (by decide), _, _, rfl, rfl, (by decide +kernel : (0 : Int) < (10 ^ 60) ^ 10), ?_⟩
    refine ⟨_, rfl, .inl ⟨_, rfl, _, _, rfl, rfl, (by decide : (0 : Int) < 2147483647), ?_⟩⟩
    refine ⟨_, rfl, _, _, rfl, rfl, mulx_ok (a := 10) (b := 10) (by decide) (by omega) (by decide), by show 3 ≤ sizeLine; rw [sizeLine_eq]; decide, fun g hg => ?_⟩
    have big : ((10 : Int) ^ 60) ^ 10 < 2 ^ 2000 := by decide +kernel
    have m1 := Int.emod_lt_of_pos (if r - 10 ^ 18 < 0 then 0 else r - 10 ^ 18) (by decide +kernel : (0 : Int) < (10 ^ 60) ^ 10)
    refine q g _ _ _ _ (sm.trans (same_new hg)) (sm.free hg) upd_same ⟨Int.emod_nonneg _ (by decide +kernel), Int.lt_trans (Int.emod_lt_of_pos _ (by decide +kernel)) big, Int.emod_nonneg _ (by decide), Int.lt_trans (Int.emod_lt_of_pos _ (by decide)) (by decide), by omega, by omega⟩
end

/-- the generator stands at a, its index is at most m -/
def Gn (a : Addr) (t m : Int) (H : Hp) : Prop := ∃ s c : Int, H a = some (genL s t c) ∧ GenOk s t c m
theorem GenOk.up {s t c m m' : Int} (o : GenOk s t c m) (h : m ≤ m') : GenOk s t c m' := ⟨o.s0, o.s1, o.t0, o.t1, o.c0, Int.le_trans o.c1 h⟩
theorem Gn.up {a : Addr} {t m m' : Int} {H : Hp} (g : Gn a t m H) (h : m ≤ m') : Gn a t m' H := by
  obtain ⟨s, c, e, o⟩ := g
  exact ⟨s, c, e, o.up h⟩
theorem Gn.keep {a p : Addr} {t m : Int} {H : Hp} {o : HO} (g : Gn a t m H) (h : p ≠ a) : Gn a t m (upd H p o) := by
  obtain ⟨s, c, e, k⟩ := g
  exact ⟨s, c, by rw [upd_ne h.symm]; exact e, k⟩
theorem Gn.same {a : Addr} {t m : Int} {H H' : Hp} (g : Gn a t m H) (s : Same H H') : Gn a t m H' := by
  obtain ⟨x, c, e, k⟩ := g
  exact ⟨x, c, s _ _ e, k⟩
theorem Gn.ne {a p : Addr} {t m : Int} {H : Hp} (g : Gn a t m H) (h : H p = none) : p ≠ a := fun e => by
  obtain ⟨s, c, q, _⟩ := g
  rw [e, q] at h
  cases h
theorem off_mono {D : Addr} {H H' : Hp} (e : Same H H') : Same (off D H) (off D H') := fun b o h => by
  obtain ⟨n, h⟩ := off_at h
  exact off_of n (e b o h)
theorem off_upd {D : Addr} {H : Hp} {o : HO} : off D (upd H D o) = off D H := by
  funext b
  unfold off
  by_cases h : b = D
  · rw [if_pos h, if_pos h]
  · rw [if_neg h, if_neg h, upd_ne h]
theorem SameX.new {a p : Addr} {H H' : Hp} {o : HO} (e : SameX a H H') (h : H p = none) : SameX a H (upd H' p o) := fun b x n hb => by
  rw [upd_ne (ne_of_none hb h)]
  exact e b x n hb
theorem SameX.free {a p : Addr} {t m : Int} {H H' : Hp} (e : SameX a H H') (g : Gn a t m H') (h : H' p = none) : H p = none := by
  cases q : H p with
  | none => rfl
  | some o =>
    have := e p o (g.ne h) q
    rw [h] at this
    cases this
section
variable {P : Program} {w : World} {K : PySem.W.Frag} {mg : Str → Option Value} {base : Heap}
def spRnd : Sp := fun vs H Q _ => ∃ (a : Addr) (b : Nat) (t m : Int), vs = [.ref a, .int b] ∧ Gn a t m H ∧ m + 100 < 4294967296 ∧ 0 < b ∧ b < 2 ^ 2000 ∧
  ∀ (r : Nat) (H' : Hp), r < b → SameX a H H' → Gn a t (m + 100) H' → Q (.int r) H'
theorem ok_rnd (T : Tx K mg) : FnG P w K mg base CX0 2 T.a_law_random T.d_law_random ["_law_generator_here", "_law_bound"] spRnd := by
  refine (ok_law_random T).weak fun vs H Q E h => ?_
  obtain ⟨a, b, t, m, rfl, ⟨s, c, e, ok⟩, hm, b0, b1, q⟩ := h
  have b2 : (b : Int) < 2 ^ 2000 := by
    have : ((2 ^ 2000 : Nat) : Int) = (2 : Int) ^ 2000 := by rw [Int.natCast_pow]; rfl
    rw [← this]
    exact Int.ofNat_lt.mpr b1
  refine ⟨a, b, s, t, c, m, rfl, e, ok, hm, by omega, b2, fun r s' c' r0 r1 ok' => ?_⟩
  have q := q r.toNat (upd H a (genL s' t c')) (by omega) SameX.upd ⟨s', c', upd_same, ok'⟩
  rw [Int.toNat_of_nonneg r0] at q
  exact q
end

end K42

set_option Elab.async false
set_option linter.all false
set_option maxRecDepth 100000
set_option maxHeartbeats 4000000
namespace K42
open PySem PySem.Spec PyProof.Rows L2 Hw
section
variable {P : Program} {w : World} {K : PySem.W.Frag} {mg : Str → Option Value} {base : Heap}

def spWhole : Sp := fun vs H Q _ => ∃ i : Int, vs = [.int i] ∧ Q (.bl true) H
theorem ok_is_whole (T : Tx K mg) : FnG P w K mg base CX0 1 T.a_is_whole T.d_is_whole ["value"] spWhole := by
  refine bodyG0 T.F_is_whole sc_is_whole (fun vs H Q E h => ?_) (fun cdv A outer s H vs Q E gd hr h => ?_)
  · obtain ⟨i, rfl, _⟩ := h; rfl
  · obtain ⟨i, rfl, q⟩ := h
    refine ⟨_, (pss_one (ps_ret (pe_and (pe_callB call_isD (by rfl) T.z_isinstance (by decide +kernel) (pa_cons (pv 0) (pa_cons (pe_bltn (v := .ty "int") (by rfl) T.z_int (by decide +kernel) rfl) pa_nil))) (pe_one (pe_not (pe_callB call_isD (by rfl) T.z_isinstance (by decide +kernel) (pa_cons (pv 0) (pa_cons (pe_bltn (v := .ty "bool") (by rfl) T.z_bool (by decide +kernel) rfl) pa_nil)))))))), ?_⟩
    refine ⟨_, rfl, _, _, _, _, rfl, .int i, kit_int _, _, rfl, iteT ?_⟩
    exact ⟨_, rfl, _, _, _, _, rfl, .int i, kit_bool _, _, rfl, q⟩

def spCount : Sp := fun vs H Q _ => ∃ i : Nat, vs = [.int i] ∧ Q (.bl true) H
theorem ok_is_count (T : Tx K mg) : FnG P w K mg base CX0 2 T.a_is_count T.d_is_count ["value"] spCount := by
  have G_is_whole := ok_is_whole (P := P) (w := w) (base := base) T
  refine bodyG0 T.F_is_count sc_is_count (fun vs H Q E h => ?_) (fun cdv A outer s H vs Q E gd hr h => ?_)
  · obtain ⟨i, rfl, _⟩ := h; rfl
  · obtain ⟨i, rfl, q⟩ := h
    refine ⟨_, (pss_one (ps_ret (pe_and (pe_g G_is_whole gd (hr.mono (by decide)) (by rfl) T.g_is_whole T.F_is_whole.kp T.b_is_whole .nil pass0 (pa_cons (pv 0) pa_nil)) (pe_one (pe_cmpR op_ge (pv 0) pe_int (nomark _)))))), ?_⟩
    refine ⟨_, rfl, i, rfl, _, rfl, iteT ?_⟩
    refine ⟨_, rfl, _, _, rfl, rfl, ?_⟩
    have e : decide ((0 : Int) ≤ (i : Int)) = true := decide_eq_true (by omega)
    rw [← e] at q
    exact q

def toldB : PyData → Bool
  | .list ds => ds.all isBool
  | _ => false
def spTold : Sp := fun vs H Q _ => ∃ (x : V) (d : PyData), vs = [x] ∧ Dt H x d ∧ (∀ ds, d = .list ds → ds.length ≤ 300000) ∧ ∀ H', Same H H' → Q (.bl (toldB d)) H'
theorem ok_are_told (T : Tx K mg) : FnG P w K mg base CX0 1 T.a_are_told T.d_are_told ["value"] spTold := by
  refine bodyG0 T.F_are_told sc_are_told (fun vs H Q E h => ?_) (fun cdv A outer s H vs Q E gd hr h => ?_)
  · obtain ⟨x, d, rfl, _⟩ := h; rfl
  · obtain ⟨x, d, rfl, hd, hz, q⟩ := h
    refine ⟨_, (pss_one (ps_ret (pe_and (pe_callB call_isD (by rfl) T.z_isinstance (by decide +kernel) (pa_cons (pv 0) (pa_cons (pe_bltn (v := .ty "list") (by rfl) T.z_list (by decide +kernel) rfl) pa_nil))) (pe_one (pe_callB (cr_allK (K := K) rfl rfl) (by rfl) T.z_all (by decide +kernel) (pa_cons (pe_lc (own := [("told", 1)]) (g := gName 1) (tt := tYes) rfl sc_are_told.nd (pi_list (pv 0)) (blkOk_by (N := ["value", "told"]) (sc := defScope s_are_told) (by decide +kernel)) (fun _ _ _ _ _ => (pg_name (i := 1) sc_are_told.nd rfl (Or.inl rfl))) (fun _ _ _ _ _ => pts_nil) (fun _ _ _ _ _ => (pe_callB call_isD (by rfl) T.z_isinstance (by decide +kernel) (pa_cons (pv 1) (pa_cons (pe_bltn (v := .ty "bool") (by rfl) T.z_bool (by decide +kernel) rfl) pa_nil))))) pa_nil)))))), ?_⟩
    refine ⟨_, rfl, x, d, _, _, rfl, hd, kit_list d, _, rfl, ?_⟩
    cases hd with
    | @lst a xs ds ha hs =>
      have hz := hz _ rfl
      have sq : SqL K H a xs := .inl (.inl ha)
      have hlen : xs.length = ds.length := hs.len
      refine iteT ⟨_, rfl, a, rfl, ⟨_, sq⟩, fun D hD => ?_⟩
      refine lc_list (K := K) (a := a) (xs := xs) (fun i H' => Same H H' ∧ H' D = some (.lst ((List.range i).map fun i => V.bl (atF ds isBool i)))) ⟨same_new' hD, upd_same⟩ (fun i H' _ e => e.1.seq sq) ?_ ?_
      · rintro i y H' hi ⟨s1, e1⟩
        obtain ⟨c, hc, hy⟩ := hs.get i y hi
        have il : i < xs.length := (List.getElem?_eq_some_iff.mp hi).1
        refine ⟨rfl, yes_if ?_⟩
        refine ⟨_, rfl, y, c, _, _, rfl, hy.to s1, kit_bool c, ?_⟩
        rw [← atF_at (g := isBool) hc]
        exact lcS (f := fun i => V.bl (atF ds isBool i)) hD s1 e1 (by omega)
      · rintro H' ⟨s1, e1⟩
        refine ⟨D, (List.range xs.length).map (atF ds isBool), rfl, .inl (.inl ?_), ?_⟩
        · rw [e1, List.map_map]
          rfl
        rw [hlen, all_atF]
        exact q H' s1
    | _ => exact iteF (q H (Same.refl H))

def someB : PyData → Bool
  | .list ds => decide (0 < ds.length)
  | _ => false
def widB : PyData → Bool
  | .tuple [a, b] => toldB a && (toldB b && someB b)
  | _ => false
theorem widB_len {ds : List PyData} (h : ¬ (ds.length : Int) = 2) : widB (.tuple ds) = false := by
  match ds, h with
  | [], _ => rfl
  | [_], _ => rfl
  | [_, _], h => exact absurd rfl h
  | _ :: _ :: _ :: _, _ => rfl
/-- lists within are short -/
def Few : PyData → Prop
  | .tuple ds => ∀ d ∈ ds, ∀ es, d = .list es → es.length ≤ 300000
  | _ => True
def spIsW : Sp := fun vs H Q _ => ∃ (x : V) (d : PyData), vs = [x] ∧ Dt H x d ∧ Few d ∧ ∀ H', Same H H' → Q (.bl (widB d)) H'
theorem ok_is_widths (T : Tx K mg) : FnG P w K mg base CX0 2 T.a_is_widths T.d_is_widths ["value"] spIsW := by
  have G_are_told := ok_are_told (P := P) (w := w) (base := base) T
  refine bodyG0 T.F_is_widths sc_is_widths (fun vs H Q E h => ?_) (fun cdv A outer s H vs Q E gd hr h => ?_)
  · obtain ⟨x, d, rfl, _⟩ := h; rfl
  · obtain ⟨x, d, rfl, hd, few, q⟩ := h
    refine ⟨_, (pss_cons (ps_if (PW.pt (pw_or (pt_not (pt_val (pe_callB call_isD (by rfl) T.z_isinstance (by decide +kernel) (pa_cons (pv 0) (pa_cons (pe_bltn (v := .ty "tuple") (by rfl) T.z_tuple (by decide +kernel) rfl) pa_nil))))) (pw_or1 (pt_cmpR op_ne (pe_callB (call_lenK (K := K) rfl) (by rfl) T.z_len (by decide +kernel) (pa_cons (pv 0) pa_nil)) pe_int (nomark _))))) (pss_one (ps_ret pe_bl)) pss_nil)
      (pss_one (ps_ret (pe_and (pe_g G_are_told gd (hr.mono (by decide)) (by rfl) T.g_are_told T.F_are_told.kp T.b_are_told .nil pass0 (pa_cons (pe_ix (ix_tupK (K := K) rfl) (pv 0) pe_int (fun _ _ => rfl)) pa_nil)) (pe_and (pe_g G_are_told gd (hr.mono (by decide)) (by rfl) T.g_are_told T.F_are_told.kp T.b_are_told .nil pass0 (pa_cons (pe_ix (ix_tupK (K := K) rfl) (pv 0) pe_int (fun _ _ => rfl)) pa_nil)) (pe_one (pe_cmpR op_gt (pe_callB (call_lenK (K := K) rfl) (by rfl) T.z_len (by decide +kernel) (pa_cons (pe_ix (ix_tupK (K := K) rfl) (pv 0) pe_int (fun _ _ => rfl)) pa_nil)) pe_int (nomark _)))))))), ?_⟩
    refine ⟨_, rfl, x, d, _, _, rfl, hd, kit_tuple d, _, rfl, ?_⟩
    cases hd with
    | @tup a xs ds ha hs =>
      have sq : SqT K H a xs := .inl (.inl ha)
      refine iteF ⟨_, rfl, a, xs, rfl, .inr sq, rfl, _, rfl, ?_⟩
      rw [vi, hs.len]
      by_cases h2 : (ds.length : Int) = 2
      · rw [decide_eq_true h2]
        refine iteF ?_
        obtain ⟨m, n, rfl⟩ : ∃ m n, ds = [m, n] := by
          match ds, h2 with
          | [m, n], _ => exact ⟨m, n, rfl⟩
          | [], h => simp at h
          | [_], h => simp at h
          | _ :: _ :: _ :: r, h => simp only [List.length_cons] at h; omega
        cases hs with
        | @cons vm _ _ _ hm hs =>
        cases hs with
        | @cons vn _ _ _ hn hs =>
        cases hs with
        | nil =>
        have q : ∀ H', Same H H' → Q (.bl (toldB m && (toldB n && someB n))) H' := q
        refine ⟨_, rfl, a, _, 0, _, rfl, rfl, sq, rfl, vm, m, rfl, hm, few m (by simp), fun H1 e1 => ?_⟩
        refine ⟨_, rfl, ?_⟩
        cases hb1 : toldB m with
        | false =>
          rw [hb1] at q
          exact iteF (q H1 e1)
        | true =>
          rw [hb1] at q
          refine iteT ⟨_, rfl, a, _, 1, _, rfl, rfl, (.inl (.inl (e1 _ _ ha))), rfl, vn, n, rfl, hn.to e1, few n (by simp), fun H2 e2 => ?_⟩
          have e2 := e1.trans e2
          refine ⟨_, rfl, ?_⟩
          cases hb2 : toldB n with
          | false =>
            rw [hb2] at q
            exact iteF (q H2 e2)
          | true =>
            rw [hb2] at q
            cases n with
            | list ns =>
              cases hn with
              | @lst b ys _ hb hy =>
              refine iteT ⟨_, rfl, a, _, 1, _, rfl, rfl, (.inl (.inl (e2 _ _ ha))), rfl, b, ys, rfl, .inl (.inl (.inl (e2 _ _ hb))), _, _, rfl, rfl, ?_⟩
              have e : decide ((ys.length : Int) > 0) = (true && (true && someB (.list ns))) := by
                show _ = (true && (true && decide (0 < ns.length)))
                rw [Bool.true_and, Bool.true_and, hy.len]
                exact decide_eq_decide.mpr (by omega)
              rw [← e] at q
              exact q H2 e2
            | _ => cases hb2
      · rw [widB_len h2] at q
        rw [decide_eq_false h2]
        exact iteT (q H (Same.refl H))
    | _ => exact iteT (q H (Same.refl H))
theorem all_blD : ∀ l : List Bool, (blD l).all isBool = true
  | [] => rfl
  | _ :: r => by
    show (true && (blD r).all isBool) = true
    rw [all_blD r]
    rfl
theorem wid_good {A T : List Bool} (h : 0 < T.length) : widB (wdD A T) = true := by
  show ((blD A).all isBool && ((blD T).all isBool && decide (0 < (blD T).length))) = true
  rw [all_blD, all_blD, List.length_map, decide_eq_true h]
  rfl
theorem wid_few {A T : List Bool} (h : A.length ≤ 1000) (h' : T.length ≤ 1000) : Few (wdD A T) := by
  intro d hd es e
  simp only [List.mem_cons, List.not_mem_nil, or_false] at hd
  rcases hd with rfl | rfl
  · cases e; rw [List.length_map]; omega
  · cases e; rw [List.length_map]; omega

/-- widths that are handed: a tuple of two lists -/
structure WdOk (H : Hp) (x : V) (A T : List Bool) : Prop where
  dt : Dt H x (wdD A T)
  pos : 0 < T.length
  a : A.length ≤ 1000
  t : T.length ≤ 1000
theorem WdOk.to {H H' : Hp} {x : V} {A T : List Bool} (h : WdOk H x A T) (e : Same H H') : WdOk H' x A T := ⟨h.dt.to e, h.pos, h.a, h.t⟩
def spCheckW : Sp := fun vs H Q _ => ∃ (x : V) (A T : List Bool), vs = [x] ∧ WdOk H x A T ∧ ∀ H', Same H H' → Q .non H'
theorem ok_check_widths (T : Tx K mg) : FnG P w K mg base CX0 3 T.a_check_widths T.d_check_widths ["widths"] spCheckW := by
  have G_is_widths := ok_is_widths (P := P) (w := w) (base := base) T
  refine bodyG0 T.F_check_widths sc_check_widths (fun vs H Q E h => ?_) (fun cdv A outer s H vs Q E gd hr h => ?_)
  · obtain ⟨x, B, U, rfl, _⟩ := h; rfl
  · obtain ⟨x, B, U, rfl, ok, q⟩ := h
    refine ⟨_, (pss_one (ps_if (pt_not (pt_val (pe_g G_is_widths gd (hr.mono (by decide)) (by rfl) T.g_is_widths T.F_is_widths.kp T.b_is_widths .nil pass0 (pa_cons (pv 0) pa_nil)))) (pss_one ps_never) pss_nil)), ?_⟩
    refine ⟨_, rfl, x, _, rfl, ok.dt, wid_few ok.a ok.t, fun H' e => ?_⟩
    rw [wid_good ok.pos]
    exact ⟨true, rfl, iteF (q H' e)⟩

theorem ok_check_wide (T : Tx K mg) : FnG P w K mg base CX0 3 T.a_check_wide T.d_check_wide ["width"] (fun vs H Q _ => ∃ i : Nat, vs = [.int i] ∧ Q .non H) := by
  have G_is_count := ok_is_count (P := P) (w := w) (base := base) T
  refine bodyG0 T.F_check_wide sc_check_wide (fun vs H Q E h => ?_) (fun cdv A outer s H vs Q E gd hr h => ?_)
  · obtain ⟨i, rfl, _⟩ := h; rfl
  · obtain ⟨i, rfl, q⟩ := h
    refine ⟨_, (pss_one (ps_if (pt_not (pt_val (pe_g G_is_count gd (hr.mono (by decide)) (by rfl) T.g_is_count T.F_is_count.kp T.b_is_count .nil pass0 (pa_cons (pv 0) pa_nil)))) (pss_one ps_never) pss_nil)), ?_⟩
    exact ⟨_, rfl, i, rfl, true, rfl, iteF q⟩

def spIn : Sp := fun vs H Q _ => ∃ (x : V) (A T : List Bool) (n : Nat), vs = [x, .int n] ∧ Dt H x (wdD A T) ∧ 0 < T.length ∧ Q (.bl (itemW A T n)) H

theorem ok_is_in (T : Tx K mg) : FnG P w K mg base CX0 1 T.a_is_in T.d_is_in ["widths", "width"] spIn := by
  refine bodyG0 T.F_is_in sc_is_in (fun vs H Q E h => ?_) (fun cdv A outer s H vs Q E gd hr h => ?_)
  · obtain ⟨x, B, U, n, rfl, _⟩ := h; rfl
  · obtain ⟨x, B, U, n, rfl, hx, ht, q⟩ := h
    refine ⟨_, (pss_cons (ps_asg (pv 0) (pg_tup (by rfl) (pgs_cons (pg_name (i := 2) sc_is_in.nd rfl (Or.inl rfl)) (pgs_cons (pg_name (i := 3) sc_is_in.nd rfl (Or.inl rfl)) pgs_nil))))
      (pss_cons (ps_if (pt_cmpR op_lt (pv 1) (pe_callB (call_lenK (K := K) rfl) (by rfl) T.z_len (by decide +kernel) (pa_cons (pv 2) pa_nil)) (nomark _)) (pss_one (ps_ret (pe_ix (ix_listK (K := K) rfl) (pv 2) (pv 1) (fun _ _ => rfl)))) pss_nil)
      (pss_one (ps_ret (pe_ix (ix_listK (K := K) rfl) (pv 3) (pe_op op_mod (pe_op op_sub (pv 1) (pe_callB (call_lenK (K := K) rfl) (by rfl) T.z_len (by decide +kernel) (pa_cons (pv 2) pa_nil))) (pe_callB (call_lenK (K := K) rfl) (by rfl) T.z_len (by decide +kernel) (pa_cons (pv 3) pa_nil))) (fun _ _ => rfl)))))), ?_⟩
    obtain ⟨a, b, c, rfl, ha, hb, hc⟩ := hx.wd
    have sa : SqL K H b (blV B) := .inl (.inl hb)
    have st : SqL K H c (blV U) := .inl (.inl hc)
    refine ⟨_, rfl, a, [.ref b, .ref c], rfl, .inl (.inl ha), rfl, _, _, rfl, _, _, rfl, rfl, ?_⟩
    refine ⟨_, rfl, _, rfl, b, _, rfl, .inl sa, _, _, rfl, rfl, _, rfl, ?_⟩
    rw [List.length_map]
    by_cases hn : (n : Int) < (B.length : Nat)
    · rw [decide_eq_true hn]
      have hn : n < B.length := by omega
      rw [item_lt hn] at q
      exact iteT ⟨_, rfl, _, rfl, _, _, _, _, rfl, rfl, sa, atI_nat (bl_at hn), q⟩
    · rw [decide_eq_false hn]
      have hn : B.length ≤ n := by omega
      rw [item_ge' hn] at q
      have e : ((n : Int) - ((blV B).length : Nat)) % ((blV U).length : Nat) = (((n - B.length) % U.length : Nat) : Int) := by
        rw [List.length_map, List.length_map, Int.natCast_emod, Int.ofNat_sub hn]
      refine iteF ⟨_, rfl, _, rfl, _, rfl, b, _, rfl, .inl sa, _, _, rfl, rfl, _, rfl, c, _, rfl, .inl st, _, _, rfl, rfl, (by show (0 : Int) < ((blV U).length : Nat); rw [List.length_map]; omega), ?_⟩
      exact ⟨_, _, _, _, rfl, rfl, st, (by rw [e]; exact atI_nat (bl_at (Nat.mod_lt _ ht))), q⟩

def spHas : Sp := fun vs H Q _ => ∃ (x : V) (A T : List Bool) (n : Nat), vs = [x, .int n] ∧ WdOk H x A T ∧ ∀ H', Same H H' → Q (.bl (itemW A T n)) H'
theorem ok_has_width (T : Tx K mg) : FnG P w K mg base CX0 4 T.a_has_width T.d_has_width ["widths", "width"] spHas := by
  have G_check_widths := ok_check_widths (P := P) (w := w) (base := base) T
  have G_check_wide := ok_check_wide (P := P) (w := w) (base := base) T
  have G_is_in := ok_is_in (P := P) (w := w) (base := base) T
  refine bodyG0 T.F_has_width sc_has_width (fun vs H Q E h => ?_) (fun cdv A outer s H vs Q E gd hr h => ?_)
  · obtain ⟨x, B, U, n, rfl, _⟩ := h; rfl
  · obtain ⟨x, B, U, n, rfl, ok, q⟩ := h
    refine ⟨_, (pss_cons (ps_expr (pe_g G_check_widths gd (hr.mono (by decide)) (by rfl) T.g_check_widths T.F_check_widths.kp T.b_check_widths .nil pass0 (pa_cons (pv 0) pa_nil)))
      (pss_cons (ps_expr (pe_g G_check_wide gd (hr.mono (by decide)) (by rfl) T.g_check_wide T.F_check_wide.kp T.b_check_wide .nil pass0 (pa_cons (pv 1) pa_nil)))
      (pss_one (ps_ret (pe_g G_is_in gd (hr.mono (by decide)) (by rfl) T.g_is_in T.F_is_in.kp T.b_is_in .nil pass0 (pa_cons (pv 0) (pa_cons (pv 1) pa_nil))))))), ?_⟩
    exact ⟨_, rfl, x, B, U, rfl, ok, fun H' e => ⟨_, rfl, n, rfl, _, rfl, _, rfl, x, B, U, n, rfl, ok.dt.to e, ok.pos, q H' e⟩⟩

theorem ok_law_item (T : Tx K mg) : FnG P w K mg base CX0 1 T.a_law_item T.d_law_item ["_law_told", "_law_width_told"] spIn := by
  refine bodyG0 T.F_law_item sc_law_item (fun vs H Q E h => ?_) (fun cdv A outer s H vs Q E gd hr h => ?_)
  · obtain ⟨x, B, U, n, rfl, _⟩ := h; rfl
  · obtain ⟨x, B, U, n, rfl, hx, ht, q⟩ := h
    refine ⟨_, (pss_cons (ps_asg (pv 0) (pg_tup (by rfl) (pgs_cons (pg_name (i := 2) sc_law_item.nd rfl (Or.inl rfl)) (pgs_cons (pg_name (i := 3) sc_law_item.nd rfl (Or.inl rfl)) pgs_nil))))
      (pss_one (ps_ret (pe_ifExp (pt_cmpR op_lt (pv 1) (pe_callB (call_lenK (K := K) rfl) (by rfl) T.z_len (by decide +kernel) (pa_cons (pv 2) pa_nil)) (nomark _)) (pe_ix (ix_listK (K := K) rfl) (pv 2) (pv 1) (fun _ _ => rfl)) (pe_ix (ix_listK (K := K) rfl) (pv 3) (pe_op op_mod (pe_callTy call_int1 (by rfl) T.z_int (by decide +kernel) (pa_cons (pe_op op_sub (pv 1) (pe_callB (call_lenK (K := K) rfl) (by rfl) T.z_len (by decide +kernel) (pa_cons (pv 2) pa_nil))) pa_nil)) (pe_callB (call_lenK (K := K) rfl) (by rfl) T.z_len (by decide +kernel) (pa_cons (pv 3) pa_nil))) (fun _ _ => rfl)))))), ?_⟩
    obtain ⟨a, b, c, rfl, ha, hb, hc⟩ := hx.wd
    have sa : SqL K H b (blV B) := .inl (.inl hb)
    have st : SqL K H c (blV U) := .inl (.inl hc)
    refine ⟨_, rfl, a, [.ref b, .ref c], rfl, .inl (.inl ha), rfl, _, _, rfl, _, _, rfl, rfl, ?_⟩
    refine ⟨_, rfl, _, rfl, b, _, rfl, .inl sa, _, _, rfl, rfl, _, rfl, ?_⟩
    rw [List.length_map]
    by_cases hn : (n : Int) < (B.length : Nat)
    · rw [decide_eq_true hn]
      have hn : n < B.length := by omega
      rw [item_lt hn] at q
      exact iteT ⟨_, rfl, _, rfl, _, _, _, _, rfl, rfl, sa, atI_nat (bl_at hn), q⟩
    · rw [decide_eq_false hn]
      have hn : B.length ≤ n := by omega
      rw [item_ge' hn] at q
      have e : ((n : Int) - ((blV B).length : Nat)) % ((blV U).length : Nat) = (((n - B.length) % U.length : Nat) : Int) := by
        rw [List.length_map, List.length_map, Int.natCast_emod, Int.ofNat_sub hn]
      refine iteF ⟨_, rfl, _, rfl, _, rfl, b, _, rfl, .inl sa, _, _, rfl, rfl, .inl ⟨_, rfl, _, rfl, c, _, rfl, .inl st, _, _, rfl, rfl, (by show (0 : Int) < ((blV U).length : Nat); rw [List.length_map]; omega), ?_⟩⟩
      exact ⟨_, _, _, _, rfl, rfl, st, (by rw [e]; exact atI_nat (bl_at (Nat.mod_lt _ ht))), q⟩

/-- a new list of Booleans -/
def newB (l : List Bool) (H : Hp) (Q : VK) : Prop := ∀ (p : Addr) (H' : Hp), Same H H' → H p = none → H' p = some (.lst (blV l)) → Q (.ref p) H'
def spShort : Sp := fun vs H Q _ => ∃ (q : Addr) (T : List Bool), vs = [.ref q] ∧ H q = some (.lst (blV T)) ∧ 0 < T.length ∧ T.length ≤ 1000 ∧ newB (T.take (leastS T)) H Q
theorem ok_shortest_turn (T : Tx K mg) : FnG P w K mg base CX0 1 T.a_shortest_turn T.d_shortest_turn ["turn"] spShort := by
  refine bodyG0 T.F_shortest_turn sc_shortest_turn (fun vs H Q E h => ?_) (fun cdv A outer s H vs Q E gd hr h => ?_)
  · obtain ⟨c, U, rfl, _⟩ := h; rfl
  · obtain ⟨c, U, rfl, hc, t0, t1, q⟩ := h
    refine ⟨_, (pss_cons (ps_set (i := 1) sc_shortest_turn.nd rfl (Or.inl rfl) pe_int)
      (pss_cons (ps_while PassesOwn.never (PW.pt (pw_or (pt_cmpR op_ne (pe_op op_mod (pe_callB (call_lenK (K := K) rfl) (by rfl) T.z_len (by decide +kernel) (pa_cons (pv 0) pa_nil)) (pv 1)) pe_int (nomark _)) (pw_or1 (pt_cmpR (op_neT hr.units) (pe_slice (sl_listK (K := K) rfl) (pv 0) (po_some (pv 1)) po_none) (pe_slice (sl_listK (K := K) rfl) (pv 0) po_none (po_some (pe_un un_neg (pv 1)))) (nomark _))))) (pss_one (ps_aug (i := 1) sc_shortest_turn.nd rfl (Or.inl rfl) pe_int ip_add)))
      (pss_one (ps_ret (pe_slice (sl_listK (K := K) rfl) (pv 0) po_none (po_some (pv 1))))))), ?_⟩
    have lo := least_ok t0
    have hlen : (blV U).length = U.length := List.length_map ..
    refine ⟨fun m σ H' => ∃ s : Nat, m = U.length - s ∧ 1 ≤ s ∧ s ≤ leastS U ∧ σ = [some (.ref c), some (.int (s : Int))] ∧ Same H H', ⟨_, 1, rfl, Nat.le_refl _, lo.pos, rfl, Same.refl H⟩, ?_⟩
    rintro m σ H1 ⟨s, rfl, s1, s2, rfl, e1⟩
    have sc : SqL K H1 c (blV U) := .inl (.inl (e1 _ _ hc))
    have sl := lo.le
    refine ⟨_, rfl, c, _, rfl, .inl sc, _, rfl, _, _, rfl, rfl, (by omega), rfl, _, rfl, ?_⟩
    rw [vi, hlen]
    by_cases hm : (U.length : Int) % (s : Int) = 0
    · rw [decide_eq_true hm]
      refine iteF ⟨_, rfl, _, rfl, _, rfl, c, _, rfl, sc, fun p hp => ?_⟩
      have e2 := e1.trans (same_new' (o := .lst (blV (U.drop s))) hp)
      rw [cut_from U (by omega)]
      refine ⟨_, rfl, _, rfl, _, rfl, _, rfl, c, _, rfl, .inl (.inl (e2 _ _ hc)), fun r hr => ?_⟩
      have e3 := e2.trans (same_new' (o := .lst (blV (U.take (U.length - s)))) hr)
      have np : r ≠ p := fun z => by rw [z, upd_same] at hr; cases hr
      rw [cut_back U (by omega) (by omega)]
      refine ne_bls (l := U.drop s) (m := U.take (U.length - s)) (by rw [upd_ne (Ne.symm np), upd_same]) upd_same ?_
      have hmn : U.length % s = 0 := by omega
      by_cases hs : U.drop s = U.take (U.length - s)
      · rw [decide_eq_true hs]
        have es : s = leastS U := Nat.le_antisymm s2 (Nat.le_of_not_lt fun z => lo.min s (by omega) (by omega) ((per_iff (by omega) (by omega)).mpr ⟨hmn, hs⟩))
        refine ⟨_, rfl, iteF ?_⟩
        refine ⟨_, rfl, _, rfl, _, rfl, c, _, rfl, .inl (.inl (e3 _ _ hc)), fun z hz => ?_⟩
        rw [cut_to]
        rw [← es] at q
        exact q z _ (e3.trans (same_new' hz)) (e3.free hz) upd_same
      · rw [decide_eq_false hs]
        have ns : s ≠ leastS U := fun z => hs ((per_iff (by omega) (by omega)).mp (z ▸ lo.per)).2
        have lt : s < leastS U := by omega
        refine ⟨_, rfl, iteT ⟨fun σ' H' => σ' = [some (.ref c), some (.int ((s : Int) + 1))] ∧ Same H H', fun σ' H' ⟨z1, z2⟩ => ⟨U.length - (s + 1), by omega, s + 1, rfl, by omega, by omega, z1, z2⟩, ?_⟩⟩
        exact ⟨_, rfl, _, _, rfl, rfl, rfl, e3⟩
    · rw [decide_eq_false hm]
      have ns : s ≠ leastS U := fun z => hm (by have := lo.per.1; rw [← z] at this; omega)
      have lt : s < leastS U := by omega
      refine iteT ?_
      refine iteT ⟨fun σ' H' => σ' = [some (.ref c), some (.int ((s : Int) + 1))] ∧ Same H H', fun σ' H' ⟨z1, z2⟩ => ⟨U.length - (s + 1), by omega, s + 1, rfl, by omega, by omega, z1, z2⟩, ?_⟩
      exact ⟨_, rfl, _, _, rfl, rfl, rfl, e1⟩

/-- new widths -/
def newW (p : List Bool × List Bool) (H : Hp) (Q : VK) : Prop := ∀ (a b c : Addr) (H' : Hp), Same H H' → H a = none → H b = none → H c = none → b ≠ c → H' a = some (.tup [.ref b, .ref c]) → H' b = some (.lst (blV p.1)) → H' c = some (.lst (blV p.2)) → Q (.ref a) H'
def spMade : Sp := fun vs H Q _ => ∃ (b c : Addr) (A T : List Bool), vs = [.ref b, .ref c] ∧ H b = some (.lst (blV A)) ∧ H c = some (.lst (blV T)) ∧ 0 < T.length ∧ T.length ≤ 1000 ∧ A.length ≤ 1000 ∧ newW (plainF A T) H Q
theorem ok_made_plain (T : Tx K mg) : FnG P w K mg base CX0 2 T.a_made_plain T.d_made_plain ["ahead", "turn"] spMade := by
  have G_shortest_turn := ok_shortest_turn (P := P) (w := w) (base := base) T
  refine bodyG0 T.F_made_plain sc_made_plain (fun vs H Q E h => ?_) (fun cdv A outer s H vs Q E gd hr h => ?_)
  · obtain ⟨b, c, B, U, rfl, _⟩ := h; rfl
  · obtain ⟨b, c, B, U, rfl, hb, hc, u0, u1, b1, q⟩ := h
    refine ⟨_, (pss_cons (ps_set (i := 1) sc_made_plain.nd rfl (Or.inl rfl) (pe_g G_shortest_turn gd (hr.mono (by decide)) (by rfl) T.g_shortest_turn T.F_shortest_turn.kp T.b_shortest_turn .nil pass0 (pa_cons (pv 1) pa_nil)))
      (pss_cons (ps_set (i := 2) sc_made_plain.nd rfl (Or.inl rfl) (pe_callB (call_lenK (K := K) rfl) (by rfl) T.z_len (by decide +kernel) (pa_cons (pv 1) pa_nil)))
      (pss_cons (ps_set (i := 3) sc_made_plain.nd rfl (Or.inl rfl) pe_int)
      (pss_cons (ps_while PassesOwn.never (PW.pt (pw_and (pt_cmpR op_lt (pv 3) (pe_callB (call_lenK (K := K) rfl) (by rfl) T.z_len (by decide +kernel) (pa_cons (pv 0) pa_nil)) (nomark _)) (pw_and1 (pt_cmpR op_eq (pe_ix (ix_listK (K := K) rfl) (pv 0) (pe_op op_sub (pe_un un_neg pe_int) (pv 3)) (fun _ _ => rfl)) (pe_ix (ix_listK (K := K) rfl) (pv 1) (pe_op op_sub (pe_un un_neg pe_int) (pe_op op_mod (pv 3) (pv 2))) (fun _ _ => rfl)) (nomark _))))) (pss_one (ps_aug (i := 3) sc_made_plain.nd rfl (Or.inl rfl) pe_int ip_add)))
      (pss_cons (ps_set (i := 4) sc_made_plain.nd rfl (Or.inl rfl) (pe_op op_sub (pv 2) (pe_op op_mod (pv 3) (pv 2))))
      (pss_one (ps_ret (pe_tup (pa_cons (pe_slice (sl_listK (K := K) rfl) (pv 0) po_none (po_some (pe_op op_sub (pe_callB (call_lenK (K := K) rfl) (by rfl) T.z_len (by decide +kernel) (pa_cons (pv 0) pa_nil)) (pv 3)))) (pa_cons (pe_op op_cat (pe_slice (sl_listK (K := K) rfl) (pv 1) (po_some (pv 4)) po_none) (pe_slice (sl_listK (K := K) rfl) (pv 1) po_none (po_some (pv 4)))) pa_nil)))))))))), ?_⟩
    refine ⟨_, rfl, c, U, rfl, hc, u0, u1, fun d H1 e1 nd hd => ?_⟩
    have half := half_of (A := B) (least_ok u0)
    have lo := least_ok u0
    have vl : (U.take (leastS U)).length ≤ 1000 := by rw [List.length_take]; omega
    revert half hd vl
    generalize U.take (leastS U) = Z
    intro hd half vl
    have z0 := half.some
    have hb1 := e1 _ _ hb
    have sb : SqL K H1 b (blV B) := .inl (.inl hb1)
    have sd : SqL K H1 d (blV Z) := .inl (.inl hd)
    have lb : (blV B).length = B.length := List.length_map ..
    have lz : (blV Z).length = Z.length := List.length_map ..
    refine ⟨_, rfl, d, _, rfl, .inl sd, ?_⟩
    rw [lz]
    refine ⟨fun m σ H' => H' = H1 ∧ ∃ l : Nat, m = B.length - l ∧ l ≤ B.length ∧ (∀ j, j < l → B.getD (B.length - 1 - j) false = Z.getD (Z.length - 1 - j % Z.length) false) ∧ σ = [some (.ref b), some (.ref d), some (.int (Z.length : Int)), some (.int (l : Int)), none], ⟨_, rfl, 0, rfl, Nat.zero_le _, fun j hj => by omega, rfl⟩, ?_⟩
    rintro m σ H' ⟨rfl, l, rfl, l1, same, rfl⟩
    refine ⟨_, rfl, _, rfl, b, _, rfl, .inl sb, _, _, rfl, rfl, _, rfl, ?_⟩
    rw [lb]
    by_cases hl : (l : Int) < (B.length : Nat)
    · rw [decide_eq_true hl]
      have hl : l < B.length := by omega
      have lm := Nat.mod_lt l z0
      have e1' : (-1 : Int) - (l : Int) % (Z.length : Int) = -1 - ((l % Z.length : Nat) : Int) := by rw [Int.natCast_emod]
      refine iteT ⟨_, rfl, _, rfl, _, rfl, _, _, rfl, rfl, _, _, _, _, rfl, rfl, sb, bl_back hl, ?_⟩
      refine ⟨_, rfl, _, rfl, _, rfl, _, rfl, _, _, rfl, rfl, (by show (0 : Int) < (Z.length : Nat); omega), _, _, rfl, rfl, _, _, _, _, rfl, rfl, sd, (by rw [e1']; exact bl_back lm), ?_⟩
      refine ⟨rfl, _, rfl, ?_⟩
      by_cases he : B.getD (B.length - 1 - l) false = Z.getD (Z.length - 1 - l % Z.length) false
      · have ev : decide (V.bl (B.getD (B.length - 1 - l) false) = V.bl (Z.getD (Z.length - 1 - l % Z.length) false)) = true := decide_eq_true (by rw [he])
        rw [ev]
        refine iteT ⟨fun σ' H2 => σ' = [some (.ref b), some (.ref d), some (.int (Z.length : Int)), some (.int ((l : Int) + 1)), none] ∧ H2 = H', fun σ' H2 ⟨z1, z2⟩ => ⟨B.length - (l + 1), by omega, z2, l + 1, rfl, by omega, fun j hj => ?_, z1⟩, ?_⟩
        · by_cases hj2 : j < l
          · exact same j hj2
          · rw [show j = l by omega]
            exact he
        · exact ⟨_, rfl, _, _, rfl, rfl, rfl, rfl⟩
      · have ev : decide (V.bl (B.getD (B.length - 1 - l) false) = V.bl (Z.getD (Z.length - 1 - l % Z.length) false)) = false := decide_eq_false fun z => he (by injection z)
        rw [ev]
        have stop : l < B.length → B.getD (B.length - 1 - l) false ≠ Z.getD (Z.length - 1 - l % Z.length) false := fun _ => he
        refine iteF ?_
        have lm := Nat.mod_lt l z0
        have eb : (Z.length : Int) - (l : Int) % (Z.length : Int) = ((Z.length - l % Z.length : Nat) : Int) := by
          rw [Int.ofNat_sub (Nat.le_of_lt lm), Int.natCast_emod]
        refine ⟨_, rfl, _, rfl, _, rfl, _, _, rfl, rfl, (by show (0 : Int) < (Z.length : Nat); omega), _, _, rfl, rfl, ?_⟩
        dsimp only [gName]
        rw [eb]
        have pl := moved half l1 same stop
        have ep := plainF_of u0 pl
        rw [ep] at q
        have ec : ((blV B).length : Int) - (l : Int) = ((B.length - l : Nat) : Int) := by rw [lb, Int.ofNat_sub l1]
        refine ⟨_, rfl, _, rfl, b, _, rfl, .inl sb, _, rfl, _, _, rfl, rfl, _, rfl, b, _, rfl, sb, fun p hp => ?_⟩
        rw [ec, cut_to]
        have e2 := same_new' (o := .lst (blV (B.take (B.length - l)))) hp
        have hp2 : (upd H' p (.lst (blV (B.take (B.length - l))))) p = some (.lst (blV (B.take (B.length - l)))) := upd_same
        generalize (upd H' p (.lst (blV (B.take (B.length - l))))) = H2 at e2 hp2
        refine ⟨_, rfl, _, rfl, _, rfl, d, _, rfl, .inl (.inl (e2 _ _ hd)), fun r hr => ?_⟩
        rw [cut_from Z (by omega)]
        have e3 := same_new' (o := .lst (blV (Z.drop (Z.length - l % Z.length)))) hr
        have hr3 : (upd H2 r (.lst (blV (Z.drop (Z.length - l % Z.length))))) r = some (.lst (blV (Z.drop (Z.length - l % Z.length)))) := upd_same
        generalize (upd H2 r (.lst (blV (Z.drop (Z.length - l % Z.length))))) = H3 at e3 hr3
        refine ⟨_, rfl, _, rfl, _, rfl, d, _, rfl, .inl (.inl (e3 _ _ (e2 _ _ hd))), fun t ht => ?_⟩
        rw [cut_to]
        have e4 := same_new' (o := .lst (blV (Z.take (Z.length - l % Z.length)))) ht
        have ht4 : (upd H3 t (.lst (blV (Z.take (Z.length - l % Z.length))))) t = some (.lst (blV (Z.take (Z.length - l % Z.length)))) := upd_same
        generalize (upd H3 t (.lst (blV (Z.take (Z.length - l % Z.length))))) = H4 at e4 ht4
        have len2 : (Z.drop (Z.length - l % Z.length)).length + (Z.take (Z.length - l % Z.length)).length = Z.length := by rw [List.length_drop, List.length_take]; omega
        refine ⟨r, t, _, _, rfl, rfl, e4 _ _ hr3, ht4, by rw [List.length_map, List.length_map, len2, sizeLine_eq]; omega, fun u hu => ?_⟩
        rw [show blV (Z.drop (Z.length - l % Z.length)) ++ blV (Z.take (Z.length - l % Z.length)) = blV (Z.drop (Z.length - l % Z.length) ++ Z.take (Z.length - l % Z.length)) from (List.map_append ..).symm]
        have e5 := same_new' (o := .lst (blV (Z.drop (Z.length - l % Z.length) ++ Z.take (Z.length - l % Z.length)))) hu
        have hu5 : (upd H4 u (.lst (blV (Z.drop (Z.length - l % Z.length) ++ Z.take (Z.length - l % Z.length))))) u = some (.lst (blV (Z.drop (Z.length - l % Z.length) ++ Z.take (Z.length - l % Z.length)))) := upd_same
        generalize (upd H4 u (.lst (blV (Z.drop (Z.length - l % Z.length) ++ Z.take (Z.length - l % Z.length))))) = H5 at e5 hu5
        refine ⟨by rw [sizeLine_eq]; show 2 ≤ _; decide, fun a ha => ?_⟩
        have e6 := same_new' (o := .tup [.ref p, .ref u]) ha
        have e14 := (e1.trans e2).trans (e3.trans e4)
        have hp5 := (e3.trans (e4.trans e5)) _ _ hp2
        exact q a p u _ ((e14.trans e5).trans e6) ((e14.trans e5).free ha) (e1.free hp) (e14.free hu) (fun z => by rw [← z, ((e3.trans e4) _ _ hp2)] at hu; exact nomatch hu) upd_same (e6 _ _ hp5) (e6 _ _ hu5)
    · rw [decide_eq_false hl]
      have stop : l < B.length → B.getD (B.length - 1 - l) false ≠ Z.getD (Z.length - 1 - l % Z.length) false := fun z => absurd (show (l : Int) < (B.length : Nat) by omega) hl
      refine iteF ?_
      refine iteF ?_
      have lm := Nat.mod_lt l z0
      have eb : (Z.length : Int) - (l : Int) % (Z.length : Int) = ((Z.length - l % Z.length : Nat) : Int) := by
        rw [Int.ofNat_sub (Nat.le_of_lt lm), Int.natCast_emod]
      refine ⟨_, rfl, _, rfl, _, rfl, _, _, rfl, rfl, (by show (0 : Int) < (Z.length : Nat); omega), _, _, rfl, rfl, ?_⟩
      dsimp only [gName]
      rw [eb]
      have pl := moved half l1 same stop
      have ep := plainF_of u0 pl
      rw [ep] at q
      have ec : ((blV B).length : Int) - (l : Int) = ((B.length - l : Nat) : Int) := by rw [lb, Int.ofNat_sub l1]
      refine ⟨_, rfl, _, rfl, b, _, rfl, .inl sb, _, rfl, _, _, rfl, rfl, _, rfl, b, _, rfl, sb, fun p hp => ?_⟩
      rw [ec, cut_to]
      have e2 := same_new' (o := .lst (blV (B.take (B.length - l)))) hp
      have hp2 : (upd H' p (.lst (blV (B.take (B.length - l))))) p = some (.lst (blV (B.take (B.length - l)))) := upd_same
      generalize (upd H' p (.lst (blV (B.take (B.length - l))))) = H2 at e2 hp2
      refine ⟨_, rfl, _, rfl, _, rfl, d, _, rfl, .inl (.inl (e2 _ _ hd)), fun r hr => ?_⟩
      rw [cut_from Z (by omega)]
      have e3 := same_new' (o := .lst (blV (Z.drop (Z.length - l % Z.length)))) hr
      have hr3 : (upd H2 r (.lst (blV (Z.drop (Z.length - l % Z.length))))) r = some (.lst (blV (Z.drop (Z.length - l % Z.length)))) := upd_same
      generalize (upd H2 r (.lst (blV (Z.drop (Z.length - l % Z.length))))) = H3 at e3 hr3
      refine ⟨_, rfl, _, rfl, _, rfl, d, _, rfl, .inl (.inl (e3 _ _ (e2 _ _ hd))), fun t ht => ?_⟩
      rw [cut_to]
      have e4 := same_new' (o := .lst (blV (Z.take (Z.length - l % Z.length)))) ht
      have ht4 : (upd H3 t (.lst (blV (Z.take (Z.length - l % Z.length))))) t = some (.lst (blV (Z.take (Z.length - l % Z.length)))) := upd_same
      generalize (upd H3 t (.lst (blV (Z.take (Z.length - l % Z.length))))) = H4 at e4 ht4
      have len2 : (Z.drop (Z.length - l % Z.length)).length + (Z.take (Z.length - l % Z.length)).length = Z.length := by rw [List.length_drop, List.length_take]; omega
      refine ⟨r, t, _, _, rfl, rfl, e4 _ _ hr3, ht4, by rw [List.length_map, List.length_map, len2, sizeLine_eq]; omega, fun u hu => ?_⟩
      rw [show blV (Z.drop (Z.length - l % Z.length)) ++ blV (Z.take (Z.length - l % Z.length)) = blV (Z.drop (Z.length - l % Z.length) ++ Z.take (Z.length - l % Z.length)) from (List.map_append ..).symm]
      have e5 := same_new' (o := .lst (blV (Z.drop (Z.length - l % Z.length) ++ Z.take (Z.length - l % Z.length)))) hu
      have hu5 : (upd H4 u (.lst (blV (Z.drop (Z.length - l % Z.length) ++ Z.take (Z.length - l % Z.length))))) u = some (.lst (blV (Z.drop (Z.length - l % Z.length) ++ Z.take (Z.length - l % Z.length)))) := upd_same
      generalize (upd H4 u (.lst (blV (Z.drop (Z.length - l % Z.length) ++ Z.take (Z.length - l % Z.length))))) = H5 at e5 hu5
      refine ⟨by rw [sizeLine_eq]; show 2 ≤ _; decide, fun a ha => ?_⟩
      have e6 := same_new' (o := .tup [.ref p, .ref u]) ha
      have e14 := (e1.trans e2).trans (e3.trans e4)
      have hp5 := (e3.trans (e4.trans e5)) _ _ hp2
      exact q a p u _ ((e14.trans e5).trans e6) ((e14.trans e5).free ha) (e1.free hp) (e14.free hu) (fun z => by rw [← z, ((e3.trans e4) _ _ hp2)] at hu; exact nomatch hu) upd_same (e6 _ _ hp5) (e6 _ _ hu5)

theorem len_of_nice {ds : List PyData} (h : Nice (.list ds)) : ds.length ≤ 262144 := by
  have key : ∀ l : List PyData, l.length ≤ PyData.bulkAll l := by
    intro l
    induction l with
    | nil => exact Nat.zero_le _
    | cons x r ih =>
      simp only [PyData.bulkAll, List.length_cons]
      omega
  have := h.small
  simp only [PyData.bulk] at this
  exact Nat.le_trans (key ds) this
theorem small1000 {n : Nat} (h : n ≤ 1000) : n < sizeLine := by rw [sizeLine_eq]; omega
theorem blV_snoc (l : List Bool) (b : Bool) : blV l ++ [V.bl b] = blV (l ++ [b]) := by
  show _ = List.map _ _
  rw [List.map_append]
  rfl
/-- lists within a tuple are data -/
def FewN : PyData → Prop
  | .tuple ds => ∀ d ∈ ds, isList d = true → Nice d
  | _ => True
theorem FewN.few {d : PyData} (h : FewN d) : Few d := by
  cases d with
  | tuple ds =>
    intro d hd es e
    subst e
    have := len_of_nice (h _ hd rfl)
    omega
  | _ => trivial

end

end K42

set_option Elab.async false
set_option linter.all false
set_option maxRecDepth 100000
set_option maxHeartbeats 4000000
namespace K42
open PySem PySem.Spec PyProof.Rows L2 Hw
section
variable {P : Program} {w : World} {K : PySem.W.Frag} {mg : Str → Option Value} {base : Heap}

def spLPlain : Sp := fun vs H Q _ => ∃ (x : V) (A T : List Bool), vs = [x] ∧ WdOk H x A T ∧ ∀ (a : V) (H' : Hp), Same H H' → Dt H' a (wdD (plainF A T).1 (plainF A T).2) → Q a H'
theorem ok_law_plain (T : Tx K mg) : FnG P w K mg base CX0 1 T.a_law_plain T.d_law_plain ["_law_told"] spLPlain := by
  refine bodyG0 T.F_law_plain sc_law_plain (fun vs H Q E h => ?_) (fun cdv A outer s H vs Q E gd hr h => ?_)
  · obtain ⟨x, B, U, rfl, _⟩ := h; rfl
  · obtain ⟨x, B, U, rfl, ok, q⟩ := h
    refine ⟨_, (pss_cons (ps_asg (pe_tup (pa_cons (pe_callTy (call_listK (K := K) rfl) (by rfl) T.z_list (by decide +kernel) (pa_cons (pe_ix (ix_tupK (K := K) rfl) (pv 0) pe_int (fun _ _ => rfl)) pa_nil)) (pa_cons (pe_callTy (call_listK (K := K) rfl) (by rfl) T.z_list (by decide +kernel) (pa_cons (pe_ix (ix_tupK (K := K) rfl) (pv 0) pe_int (fun _ _ => rfl)) pa_nil)) pa_nil))) (pg_tup (by rfl) (pgs_cons (pg_name (i := 1) sc_law_plain.nd rfl (Or.inl rfl)) (pgs_cons (pg_name (i := 2) sc_law_plain.nd rfl (Or.inr rfl)) pgs_nil))))
      (pss_cons (ps_setLc (i := 3) (own := [("_law_size", 5)]) (g := gName 5) rfl sc_law_plain.nd rfl rfl (sw_true rfl rfl rfl (by decide +kernel)) (pi_range2 (by rfl) T.z_range (pa_cons pe_int (pa_cons (pe_op op_add (pe_callB (call_lenK (K := K) rfl) (by rfl) T.z_len (by decide +kernel) (pa_cons (pv 2) pa_nil)) pe_int) pa_nil))) (blkOk_by (N := ["_law_told", "_law_ahead", "_law_turn", "_law_sizes", "_law_step", "_law_size"]) (sc := defScope s_law_plain) (by decide +kernel)) (fun _ _ _ _ _ => (pg_name (i := 5) sc_law_plain.nd rfl (Or.inl rfl))) (fun _ _ _ _ _ => (pts_one (PW.pt (pw_and (pt_cmpR op_eq (pe_op op_mod (pe_callTy call_int1 (by rfl) T.z_int (by decide +kernel) (pa_cons (pe_callB (call_lenK (K := K) rfl) (by rfl) T.z_len (by decide +kernel) (pa_cons (pv 2) pa_nil)) pa_nil)) (pv 5)) pe_int (nomark _)) (pw_and1 (pt_cmpR (op_eqT hr.units) (pv 2) (pe_op op_rep (pe_slice (sl_listK (K := K) rfl) (pv 2) po_none (po_some (pv 5))) (pe_op op_fdivW (pe_callB (call_lenK (K := K) rfl) (by rfl) T.z_len (by decide +kernel) (pa_cons (pv 2) pa_nil)) (pv 5))) (nomark _))))))) (fun _ _ _ _ _ => (pv 5)))
      (pss_cons (ps_set (i := 2) sc_law_plain.nd rfl (Or.inr rfl) (pe_slice (sl_listK (K := K) rfl) (pv 2) po_none (po_some (pe_ix (ix_listK (K := K) rfl) (pv 3) pe_int (fun _ _ => rfl)))))
      (pss_cons (ps_for PassesOwn.never rfl (pi_range1 (by rfl) T.z_range (pa_cons (pe_callB (call_lenK (K := K) rfl) (by rfl) T.z_len (by decide +kernel) (pa_cons (pv 1) pa_nil)) pa_nil)) (pg_name (i := 4) sc_law_plain.nd rfl (Or.inl rfl)) (pss_cons (ps_if (pt_cmpR op_eq (pe_ix (ix_listK (K := K) rfl) (pv 1) (pe_op op_sub (pe_callB (call_lenK (K := K) rfl) (by rfl) T.z_len (by decide +kernel) (pa_cons (pv 1) pa_nil)) pe_int) (fun _ _ => rfl)) (pe_ix (ix_listK (K := K) rfl) (pv 2) (pe_op op_sub (pe_callB (call_lenK (K := K) rfl) (by rfl) T.z_len (by decide +kernel) (pa_cons (pv 2) pa_nil)) pe_int) (fun _ _ => rfl)) (nomark _)) (pss_one (ps_asg (pe_tup (pa_cons (pe_slice (sl_listK (K := K) rfl) (pv 1) po_none (po_some (pe_op op_sub (pe_callB (call_lenK (K := K) rfl) (by rfl) T.z_len (by decide +kernel) (pa_cons (pv 1) pa_nil)) pe_int))) (pa_cons (pe_op op_cat (pe_slice (sl_listK (K := K) rfl) (pv 2) (po_some (pe_op op_sub (pe_callB (call_lenK (K := K) rfl) (by rfl) T.z_len (by decide +kernel) (pa_cons (pv 2) pa_nil)) pe_int)) po_none) (pe_slice (sl_listK (K := K) rfl) (pv 2) po_none (po_some (pe_op op_sub (pe_callB (call_lenK (K := K) rfl) (by rfl) T.z_len (by decide +kernel) (pa_cons (pv 2) pa_nil)) pe_int)))) pa_nil))) (pg_tup (by rfl) (pgs_cons (pg_name (i := 1) sc_law_plain.nd rfl (Or.inl rfl)) (pgs_cons (pg_name (i := 2) sc_law_plain.nd rfl (Or.inr rfl)) pgs_nil))))) pss_nil)
      (pss_one (ps_if (pt_cmpR (op_eqT hr.units) (pv 1) (pe_lst pa_nil) (nomark _)) (pss_one ps_break) pss_nil))))
      (pss_one (ps_ret (pe_tup (pa_cons (pv 1) (pa_cons (pv 2) pa_nil))))))))), ?_⟩
    obtain ⟨a, b, c, rfl, ha, hb, hc⟩ := ok.dt.wd
    have u0 := ok.pos
    have u1 := ok.t
    have b1 := ok.a
    have lo := least_ok u0
    have lu : (blV U).length = U.length := List.length_map ..
    refine ⟨_, rfl, a, _, 0, _, rfl, rfl, .inl (.inl ha), rfl, b, _, rfl, .inl (.inl (.inl hb)), fun p hp => ?_⟩
    have e2 := same_new' (o := .lst (blV B)) hp
    have hp2 : (upd H p (.lst (blV B))) p = some (.lst (blV B)) := upd_same
    generalize (upd H p (.lst (blV B))) = H2 at e2 hp2
    refine ⟨_, rfl, a, _, 1, _, rfl, rfl, .inl (.inl (e2 _ _ ha)), rfl, c, _, rfl, .inl (.inl (.inl (e2 _ _ hc))), fun r hr => ?_⟩
    have e3 := same_new' (o := .lst (blV U)) hr
    have hr3 : (upd H2 r (.lst (blV U))) r = some (.lst (blV U)) := upd_same
    generalize (upd H2 r (.lst (blV U))) = H3 at e3 hr3
    refine ⟨by rw [sizeLine_eq]; show 2 ≤ _; decide, fun t ht => ?_⟩
    have e4 := same_new' (o := .tup [.ref p, .ref r]) ht
    have ht4 : (upd H3 t (.tup [.ref p, .ref r])) t = some (.tup [.ref p, .ref r]) := upd_same
    generalize (upd H3 t (.tup [.ref p, .ref r])) = H4 at e4 ht4
    refine ⟨t, _, rfl, .inl (.inl ht4), rfl, _, _, rfl, _, _, rfl, rfl, ?_⟩
    have s04 := (e2.trans e3).trans e4
    have hp4 := (e3.trans e4) _ _ hp2
    have hr4 := e4 _ _ hr3
    -- the sizes
    have sr : SqL K H4 r (blV U) := .inl (.inl hr4)
    have en : ((blV U).length : Int) + 1 - 1 = (U.length : Int) := by rw [lu]; omega
    refine ⟨_, rfl, r, _, rfl, .inl sr, _, _, rfl, rfl, _, _, rfl, (by rw [lu]; omega), fun D hD => ?_⟩
    rw [en, Int.toNat_natCast]
    refine lc_range (lo := 1) (n := U.length) (fun i H' => Same H4 H' ∧ H' D = some (.lst (natV ((List.range' 1 i).filter fun s => decide (Per U s))))) ⟨same_new' hD, upd_same⟩ ?_ ?_
    · rintro i H' hi ⟨s1, e1⟩
      have es : (1 : Int) + (i : Int) = ((i + 1 : Nat) : Int) := by omega
      rw [es]
      have sr1 : SqL K H' r (blV U) := .inl (.inl (s1 _ _ hr4))
      have skip : ¬ Per U (i + 1) → Same H4 H' ∧ H' D = some (.lst (natV ((List.range' 1 (i + 1)).filter fun s => decide (Per U s)))) := fun z => by
        refine ⟨s1, ?_⟩
        rw [range'_snoc, List.filter_append, List.filter_cons_of_neg (by simpa using z), List.filter_nil, List.append_nil]
        exact e1
      refine ⟨rfl, _, rfl, r, _, rfl, .inl sr1, .inl ⟨_, rfl, _, rfl, _, _, rfl, rfl, (by show (0 : Int) < ((i + 1 : Nat) : Int); omega), rfl, _, rfl, ?_⟩⟩
      rw [vi, lu]
      by_cases hm : (U.length : Int) % ((i + 1 : Nat) : Int) = 0
      · rw [decide_eq_true hm]
        have hmn : U.length % (i + 1) = 0 := by omega
        refine iteT ⟨_, rfl, _, rfl, _, rfl, _, rfl, r, _, rfl, sr1, fun z hz => ?_⟩
        rw [cut_to]
        have e5 := same_new' (o := .lst (blV (U.take (i + 1)))) hz
        have hz5 : (upd H' z (.lst (blV (U.take (i + 1))))) z = some (.lst (blV (U.take (i + 1)))) := upd_same
        generalize (upd H' z (.lst (blV (U.take (i + 1))))) = H5 at e5 hz5
        have r5 := e5 _ _ (s1 _ _ hr4)
        refine ⟨_, rfl, r, _, rfl, .inl (.inl (.inl r5)), _, rfl, _, _, rfl, rfl, ?_, ?_⟩
        · exact wide_div (b := 20) (by omega) (by omega) (by decide) (by decide)
        have eq : ((blV U).length : Int) / ((i + 1 : Nat) : Int) = ((U.length / (i + 1) : Nat) : Int) := by rw [lu, Int.natCast_ediv]
        have eqn : (((U.length / (i + 1) : Nat) : Int)).toNat = U.length / (i + 1) := Int.toNat_natCast _
        have ql : U.length / (i + 1) ≤ U.length := Nat.div_le_self _ _
        have tl : (blV (U.take (i + 1))).length = i + 1 := by rw [List.length_map, List.length_take]; omega
        have qm : (i + 1) * (U.length / (i + 1)) ≤ U.length := Nat.mul_div_le _ _
        dsimp only
        rw [eq]
        refine ⟨z, _, _, rfl, rfl, hz5, by omega, by omega, by rw [tl, eqn, sizeLine_eq]; omega, fun y hy => ?_⟩
        rw [eqn, blV_rep]
        have e6 := same_new' (o := .lst (blV (List.replicate (U.length / (i + 1)) (U.take (i + 1))).flatten)) hy
        have hy6 : (upd H5 y (.lst (blV (List.replicate (U.length / (i + 1)) (U.take (i + 1))).flatten))) y = some (.lst (blV (List.replicate (U.length / (i + 1)) (U.take (i + 1))).flatten)) := upd_same
        generalize (upd H5 y (.lst (blV (List.replicate (U.length / (i + 1)) (U.take (i + 1))).flatten))) = H6 at e6 hy6
        refine eq_bls (e6 _ _ r5) hy6 ?_
        have pi := per_iff_rep (T := U) (s := i + 1) (by omega) (by omega) hmn
        have e16 := e5.trans e6
        refine ⟨_, rfl, ?_⟩
        by_cases hp2 : Per U (i + 1)
        · rw [decide_eq_true (pi.mp hp2)]
          have fl : (List.range' 1 (i + 1)).filter (fun s => decide (Per U s)) = (List.range' 1 i).filter (fun s => decide (Per U s)) ++ [i + 1] := by
            rw [range'_snoc, List.filter_append, List.filter_cons_of_pos (by simpa using hp2), List.filter_nil]
          refine iteT ⟨_, rfl, _, e16 _ _ e1, ?_, fun g o hg => ?_, ?_⟩
          · have := List.length_filter_le (fun s => decide (Per U s)) (List.range' 1 i)
            rw [List.length_range'] at this
            rw [List.length_map, sizeLine_eq]; omega
          · rw [upd_ne (ne_of_none hg hD)]
            exact (s1.trans e16) g o hg
          · rw [upd_same, fl]
            show _ = some (HO.lst (List.map _ _))
            rw [List.map_append]
            rfl
        · rw [decide_eq_false fun z => hp2 (pi.mpr z)]
          obtain ⟨k1, k2⟩ := skip hp2
          exact iteF ⟨k1.trans e16, e16 _ _ k2⟩
      · rw [decide_eq_false hm]
        exact iteF (skip fun z => hm (by have := z.1; omega))
    rintro H5 ⟨s5, e5⟩
    have first : (natV ((List.range' 1 U.length).filter fun s => decide (Per U s)))[0]? = some (V.int (leastS U : Nat)) := nat_at (least_first u0)
    dsimp only [gName]
    have r5 := s5 _ _ hr4
    refine ⟨_, rfl, _, rfl, D, _, 0, _, rfl, rfl, .inl (.inl e5), atI_nat (j := 0) first, _, rfl, r, _, rfl, .inl (.inl r5), fun z hz => ?_⟩
    rw [cut_to]
    have e6 := same_new' (o := .lst (blV (U.take (leastS U)))) hz
    have hz6 : (upd H5 z (.lst (blV (U.take (leastS U))))) z = some (.lst (blV (U.take (leastS U)))) := upd_same
    generalize (upd H5 z (.lst (blV (U.take (leastS U))))) = H6 at e6 hz6
    have s06 := (s04.trans s5).trans e6
    have p6 := (s5.trans e6) _ _ hp4
    have lb : (blV B).length = B.length := List.length_map ..
    refine ⟨_, rfl, p, _, rfl, .inl (.inl (.inl p6)), _, rfl, by rw [lb]; omega, by rw [lb]; omega, ?_⟩
    rw [lb, Int.toNat_natCast]
    have fin : ∀ (u v : Addr) (y4 y5 : Option V) (H' : Hp), Same H H' → H' u = some (.lst (blV (plainF B U).1)) → H' v = some (.lst (blV (plainF B U).2)) →
        tRet (tTup (tCons (tVar 1) (tCons (tVar 2) tNil))) { nx := fun _ H' => Q .non H', rt := Q } [some (.ref a), some (.ref u), some (.ref v), some (.ref D), y4, y5] H' := fun u v y4 y5 H' e0 hu hv => by
      refine ⟨_, rfl, _, rfl, by rw [sizeLine_eq]; show 2 ≤ _; decide, fun t ht => ?_⟩
      have e7 := same_new' (o := .tup [.ref u, .ref v]) ht
      exact q _ _ (e0.trans e7) (.wd_of upd_same (e7 _ _ hu) (e7 _ _ hv))
    refine for_range (n := B.length) (fun i σ H' => Same H H' ∧ ∃ (u v : Addr) (y4 y5 : Option V), H' u = some (.lst (blV (stepsW i (B, U.take (leastS U))).1)) ∧ H' v = some (.lst (blV (stepsW i (B, U.take (leastS U))).2)) ∧
      σ = [some (.ref a), some (.ref u), some (.ref v), some (.ref D), y4, y5] ∧ (i < B.length → 0 < (stepsW i (B, U.take (leastS U))).1.length)) ⟨s06, p, z, _, _, p6, hz6, rfl, fun h => h⟩ ?_ ?_
    · rintro i σ H7 hi ⟨s7, u, v, y4, y5, hu, hv, rfl, some_⟩
      have some_ := some_ hi
      have small := stepsW_len i (B, U.take (leastS U))
      have last := stepsW_last i (B, U.take (leastS U))
      have halfS : Half (itemW B U) (stepsW i (B, U.take (leastS U))).1 (stepsW i (B, U.take (leastS U))).2 := Half.steps i (half_of (A := B) lo)
      have stop : (stepsW (i + 1) (B, U.take (leastS U))).1 = [] → plainF B U = stepsW (i + 1) (B, U.take (leastS U)) := fun e => by
        show stepsW B.length _ = _
        rw [show B.length = (i + 1) + (B.length - (i + 1)) by omega, stepsW_add, stepsW_nil _ _ e]
      have small2 : (U.take (leastS U)).length ≤ 1000 := by rw [List.length_take]; omega
      rw [last] at stop ⊢
      revert hu hv some_ small stop halfS
      generalize stepsW i (B, U.take (leastS U)) = W
      obtain ⟨C, Z⟩ := W
      intro hu hv some_ small halfS stop
      have hu : H7 u = some (.lst (blV C)) := hu
      have hv : H7 v = some (.lst (blV Z)) := hv
      have some_ : 0 < C.length := some_
      have z0 : 0 < Z.length := halfS.some
      have small : C.length ≤ B.length ∧ Z.length = (U.take (leastS U)).length := small
      have sC : SqL K H7 u (blV C) := .inl (.inl hu)
      have sZ : SqL K H7 v (blV Z) := .inl (.inl hv)
      have lC : (blV C).length = C.length := List.length_map ..
      have lZ : (blV Z).length = Z.length := List.length_map ..
      have eC : ((blV C).length : Int) - 1 = ((C.length - 1 : Nat) : Int) := by rw [lC]; omega
      have eZ : ((blV Z).length : Int) - 1 = ((Z.length - 1 : Nat) : Int) := by rw [lZ]; omega
      -- behind the step
      refine ⟨_, rfl, _, rfl, u, _, rfl, .inl sC, _, _, rfl, rfl, _, _, _, _, rfl, rfl, sC, (by rw [eC]; exact atI_nat (bl_at (by omega))), _, rfl, _, rfl, v, _, rfl, .inl sZ, _, _, rfl, rfl, _, _, _, _, rfl, rfl, sZ, (by rw [eZ]; exact atI_nat (bl_at (by omega))), rfl, _, rfl, ?_⟩
      by_cases heq : C.getD (C.length - 1) false = Z.getD (Z.length - 1) false
      · have ev : decide (V.bl (C.getD (C.length - 1) false) = V.bl (Z.getD (Z.length - 1) false)) = true := decide_eq_true (by rw [heq])
        rw [ev]
        have eW : stepW (C, Z) = (C.take (C.length - 1), Z.drop (Z.length - 1) ++ Z.take (Z.length - 1)) := by
          unfold stepW
          rw [if_neg (show ¬ (C, Z).1.length = 0 by show ¬ C.length = 0; omega), if_pos heq]
        refine iteT ⟨_, rfl, _, rfl, u, _, rfl, .inl sC, _, _, rfl, rfl, _, rfl, u, _, rfl, sC, fun p1 hp1 => ?_⟩
        rw [eC, cut_to]
        have f1 := same_new' (o := .lst (blV (C.take (C.length - 1)))) hp1
        have g1 : (upd H7 p1 (.lst (blV (C.take (C.length - 1))))) p1 = some (.lst (blV (C.take (C.length - 1)))) := upd_same
        generalize (upd H7 p1 (.lst (blV (C.take (C.length - 1))))) = J1 at f1 g1
        refine ⟨_, rfl, _, rfl, v, _, rfl, .inl (.inl (.inl (f1 _ _ hv))), _, _, rfl, rfl, _, rfl, v, _, rfl, .inl (.inl (f1 _ _ hv)), fun p2 hp2 => ?_⟩
        rw [eZ, cut_from Z (by omega)]
        have f2 := same_new' (o := .lst (blV (Z.drop (Z.length - 1)))) hp2
        have g2 : (upd J1 p2 (.lst (blV (Z.drop (Z.length - 1))))) p2 = some (.lst (blV (Z.drop (Z.length - 1)))) := upd_same
        generalize (upd J1 p2 (.lst (blV (Z.drop (Z.length - 1))))) = J2 at f2 g2
        have hv2 := f2 _ _ (f1 _ _ hv)
        refine ⟨_, rfl, _, rfl, v, _, rfl, .inl (.inl (.inl hv2)), _, _, rfl, rfl, _, rfl, v, _, rfl, .inl (.inl hv2), fun p3 hp3 => ?_⟩
        rw [eZ, cut_to]
        have f3 := same_new' (o := .lst (blV (Z.take (Z.length - 1)))) hp3
        have g3 : (upd J2 p3 (.lst (blV (Z.take (Z.length - 1))))) p3 = some (.lst (blV (Z.take (Z.length - 1)))) := upd_same
        generalize (upd J2 p3 (.lst (blV (Z.take (Z.length - 1))))) = J3 at f3 g3
        refine ⟨p2, p3, _, _, rfl, rfl, f3 _ _ g2, g3, by rw [List.length_map, List.length_map, List.length_drop, List.length_take, sizeLine_eq]; omega, fun p4 hp4 => ?_⟩
        rw [show blV (Z.drop (Z.length - 1)) ++ blV (Z.take (Z.length - 1)) = blV (Z.drop (Z.length - 1) ++ Z.take (Z.length - 1)) from (List.map_append ..).symm]
        have f4 := same_new' (o := .lst (blV (Z.drop (Z.length - 1) ++ Z.take (Z.length - 1)))) hp4
        have g4 : (upd J3 p4 (.lst (blV (Z.drop (Z.length - 1) ++ Z.take (Z.length - 1))))) p4 = some (.lst (blV (Z.drop (Z.length - 1) ++ Z.take (Z.length - 1)))) := upd_same
        generalize (upd J3 p4 (.lst (blV (Z.drop (Z.length - 1) ++ Z.take (Z.length - 1))))) = J4 at f4 g4
        refine ⟨by rw [sizeLine_eq]; show 2 ≤ _; decide, fun p5 hp5 => ?_⟩
        have f5 := same_new' (o := .tup [.ref p1, .ref p4]) hp5
        have g5 : (upd J4 p5 (.tup [.ref p1, .ref p4])) p5 = some (.tup [.ref p1, .ref p4]) := upd_same
        generalize (upd J4 p5 (.tup [.ref p1, .ref p4])) = J5 at f5 g5
        refine ⟨p5, _, rfl, .inl (.inl g5), rfl, _, _, rfl, _, _, rfl, rfl, ?_⟩
        have s8 := s7.trans ((f1.trans f2).trans ((f3.trans f4).trans f5))
        have hu8 := ((f2.trans f3).trans (f4.trans f5)) _ _ g1
        have hv8 := f5 _ _ g4
        refine ⟨_, rfl, Nat.zero_le _, fun e he => ?_⟩
        have e9 := same_new' (o := .lst []) he
        refine eq_bls (l := (C.take (C.length - 1))) (m := []) (e9 _ _ hu8) upd_same ⟨_, rfl, ?_⟩
        by_cases hn : (C.take (C.length - 1)) = []
        · rw [decide_eq_true hn]
          have sp := stop (by rw [eW]; exact hn)
          rw [eW] at sp
          exact iteT (fin _ _ _ _ _ (s8.trans e9) (by rw [sp]; exact e9 _ _ hu8) (by rw [sp]; exact e9 _ _ hv8))
        · rw [decide_eq_false hn]
          exact iteF ⟨s8.trans e9, _, _, _, _, (by rw [eW]; exact e9 _ _ hu8), (by rw [eW]; exact e9 _ _ hv8), rfl, fun _ => by rw [eW]; exact List.length_pos_iff.mpr hn⟩
      · have ev : decide (V.bl (C.getD (C.length - 1) false) = V.bl (Z.getD (Z.length - 1) false)) = false := decide_eq_false fun z => heq (by injection z)
        rw [ev]
        have eW : stepW (C, Z) = (C, Z) := stepW_done (p := (C, Z)) fun _ => heq
        have s8 := s7
        have hu8 := hu
        have hv8 := hv
        refine iteF ?_
        refine ⟨_, rfl, Nat.zero_le _, fun e he => ?_⟩
        have e9 := same_new' (o := .lst []) he
        refine eq_bls (l := C) (m := []) (e9 _ _ hu8) upd_same ⟨_, rfl, ?_⟩
        by_cases hn : C = []
        · rw [decide_eq_true hn]
          have sp := stop (by rw [eW]; exact hn)
          rw [eW] at sp
          exact iteT (fin _ _ _ _ _ (s8.trans e9) (by rw [sp]; exact e9 _ _ hu8) (by rw [sp]; exact e9 _ _ hv8))
        · rw [decide_eq_false hn]
          exact iteF ⟨s8.trans e9, _, _, _, _, (by rw [eW]; exact e9 _ _ hu8), (by rw [eW]; exact e9 _ _ hv8), rfl, fun _ => by rw [eW]; exact List.length_pos_iff.mpr hn⟩
    · rintro σ H7 ⟨s7, u, v, y4, y5, hu, hv, rfl, _⟩
      exact fin u v y4 y5 H7 s7 hu hv

def spSet : Sp := fun vs H Q _ => ∃ (a : Addr) (t m : Int) (most : Nat), vs = [.ref a, .int most] ∧ Gn a t m H ∧ m + 9000 < 4294967296 ∧ 1 ≤ most ∧ most ≤ 30 ∧
  ∀ (x : V) (A T : List Bool) (H' : Hp), SameX a H H' → Gn a t (m + 8000) H' → Dt (off a H') x (wdD A T) → A.length < most → 0 < T.length → T.length ≤ most → Q x H'
theorem ok_law_set (T : Tx K mg) : FnG P w K mg base CX0 3 T.a_law_set T.d_law_set ["_law_generator_here", "_law_most"] spSet := by
  have G_law_random := ok_rnd (P := P) (w := w) (base := base) T
  refine bodyG0 T.F_law_set sc_law_set (fun vs H Q E h => ?_) (fun cdv A outer s H vs Q E gd hr h => ?_)
  · obtain ⟨a, t, m, most, rfl, _⟩ := h; rfl
  · obtain ⟨a, t, m, most, rfl, g0, hm, m1, m2, q⟩ := h
    refine ⟨_, (pss_cons (ps_setLc (i := 2) (own := [("_law_step", 3)]) (g := gName 3) (tt := tYes) rfl sc_law_set.nd rfl rfl (sw_true rfl rfl rfl (by decide +kernel)) (pi_range1 (by rfl) T.z_range (pa_cons (pe_g G_law_random gd (hr.mono (by decide)) (by rfl) T.g_law_random T.F_law_random.kp T.b_law_random .nil pass0 (pa_cons (pv 0) (pa_cons (pv 1) pa_nil))) pa_nil)) (blkOk_by (N := ["_law_generator_here", "_law_most", "_law_ahead", "_law_step"]) (sc := defScope s_law_set) (by decide +kernel)) (fun _ _ _ _ _ => (pg_name (i := 3) sc_law_set.nd rfl (Or.inl rfl))) (fun _ _ _ _ _ => pts_nil) (fun _ _ _ _ _ => (pe_cmpR op_eq (pe_g G_law_random gd (hr.mono (by decide)) (by rfl) T.g_law_random T.F_law_random.kp T.b_law_random .nil pass0 (pa_cons (pv 0) (pa_cons pe_int pa_nil))) pe_int (nomark _))))
      (pss_one (ps_ret (pe_tup (pa_cons (pv 2) (pa_cons (pe_lc (own := [("_law_step", 3)]) (g := gName 3) (tt := tYes) rfl sc_law_set.nd (pi_range1 (by rfl) T.z_range (pa_cons (pe_op op_add pe_int (pe_g G_law_random gd (hr.mono (by decide)) (by rfl) T.g_law_random T.F_law_random.kp T.b_law_random .nil pass0 (pa_cons (pv 0) (pa_cons (pv 1) pa_nil)))) pa_nil)) (blkOk_by (N := ["_law_generator_here", "_law_most", "_law_ahead", "_law_step"]) (sc := defScope s_law_set) (by decide +kernel)) (fun _ _ _ _ _ => (pg_name (i := 3) sc_law_set.nd rfl (Or.inl rfl))) (fun _ _ _ _ _ => pts_nil) (fun _ _ _ _ _ => (pe_cmpR op_eq (pe_g G_law_random gd (hr.mono (by decide)) (by rfl) T.g_law_random T.F_law_random.kp T.b_law_random .nil pass0 (pa_cons (pv 0) (pa_cons pe_int pa_nil))) pe_int (nomark _)))) pa_nil)))))), ?_⟩
    have sm : ∀ {b : Nat}, b ≤ 1000 → b < 2 ^ 2000 := fun {b} hb => by
      have : (1000 : Nat) < 2 ^ 2000 := by decide +kernel
      omega
    refine ⟨_, rfl, _, rfl, a, most, t, m, rfl, g0, by omega, by omega, sm (by omega), fun n H1 hn x1 g1 => ?_⟩
    refine ⟨n, rfl, by omega, by omega, fun D hD => ?_⟩
    have nDa := g1.ne hD
    rw [Int.toNat_natCast]
    refine lc_range (lo := 0) (n := n) (fun j H' => SameX a H1 H' ∧ Gn a t (m + 100 + 100 * j) H' ∧ ∃ l : List Bool, H' D = some (.lst (blV l)) ∧ l.length = j) ⟨SameX.of (same_new' hD), (g1.same (same_new' hD)).up (by omega), [], upd_same, rfl⟩ ?_ ?_
    · rintro j H5 hj ⟨x5, g5, l, e5, le5⟩
      refine ⟨rfl, yes_if ?_⟩
      refine ⟨_, rfl, a, 2, t, _, rfl, g5, by omega, by decide, sm (by decide), fun r2 H6 hr2 x6 g6 => ?_⟩
      refine ⟨rfl, blV l, x6 _ _ nDa e5, by rw [List.length_map]; exact small1000 (by omega), SameX.new (x5.trans x6) hD, (g6.keep nDa).up (by omega), l ++ [decide (V.int (r2 : Int) = V.int 0)], ?_, by rw [List.length_append, le5]; rfl⟩
      rw [upd_same, blV_snoc]
    rintro H5 ⟨x5, g5, B, eB, lB⟩
    have x05 := x1.trans x5
    dsimp only [gName]
    refine ⟨_, rfl, _, rfl, _, rfl, a, most, t, _, rfl, g5, by omega, by omega, sm (by omega), fun n2 H6 hn2 x6 g6 => ?_⟩
    have eB6 := x6 _ _ nDa eB
    refine ⟨_, _, rfl, rfl, ((1 + n2 : Nat) : Int), (by rw [show ((1 + n2 : Nat) : Int) = 1 + (n2 : Int) by omega]), by omega, by omega, fun D2 hD2 => ?_⟩
    have nD2 := g6.ne hD2
    rw [Int.toNat_natCast]
    refine lc_range (lo := 0) (n := 1 + n2) (fun j H' => SameX a H6 H' ∧ Gn a t (m + 100 + 100 * n + 100 + 100 * j) H' ∧ ∃ l : List Bool, H' D2 = some (.lst (blV l)) ∧ l.length = j) ⟨SameX.of (same_new' hD2), (g6.same (same_new' hD2)).up (by omega), [], upd_same, rfl⟩ ?_ ?_
    · rintro j H7 hj ⟨x7, g7, l, e7, le7⟩
      refine ⟨rfl, yes_if ?_⟩
      refine ⟨_, rfl, a, 2, t, _, rfl, g7, by omega, by decide, sm (by decide), fun r2 H8 hr2 x8 g8 => ?_⟩
      refine ⟨rfl, blV l, x8 _ _ nD2 e7, by rw [List.length_map]; exact small1000 (by omega), SameX.new (x7.trans x8) hD2, (g8.keep nD2).up (by omega), l ++ [decide (V.int (r2 : Int) = V.int 0)], ?_, by rw [List.length_append, le7]; rfl⟩
      rw [upd_same, blV_snoc]
    rintro H7 ⟨x7, g7, U, eU, lU⟩
    have eB7 := x7 _ _ nDa eB6
    refine ⟨by rw [sizeLine_eq]; show 2 ≤ _; decide, fun p hp => ?_⟩
    have e8 := same_new' (o := .tup [.ref D, .ref D2]) hp
    have np := g7.ne hp
    refine q _ B U _ (SameX.trans ((x05.trans x6).trans x7) (SameX.of e8)) ((g7.same e8).up (by omega)) (.wd_of (off_of np upd_same) (off_of nDa (e8 _ _ eB7)) (off_of nD2 (e8 _ _ eU))) (by omega) (by omega) (by omega)

end

end K42

set_option Elab.async false
set_option linter.all false
set_option maxRecDepth 100000
set_option maxHeartbeats 4000000
namespace K42
open PySem PySem.Spec PyProof.Rows L2 Hw
section
variable {P : Program} {w : World} {K : PySem.W.Frag} {mg : Str → Option Value} {base : Heap}

theorem nat_bits {n : Nat} (h : n < 2 ^ 200) : Builtin.Int.intBits ((n : Nat) : Int) ≤ 200 := PyProof.Rows.intBits_le (by rw [Int.natAbs_natCast]; exact h)
theorem div_nat {n m : Nat} (h : n < 2 ^ 200) (hm : 0 < m) : CDivP ((n : Nat) : Int) ((m : Nat) : Int) := divp_ok (by omega) (by have := nat_bits h; omega)
theorem atI_neg {α : Type} {xs : List α} (h : 0 < xs.length) : atI xs (-1) = xs.getLast? := by
  unfold atI
  rw [show ixN xs.length (-1) = some (xs.length - 1) by
    unfold ixN
    rw [if_neg (by decide), if_pos (by omega)]
    congr 1
    omega]
  rw [List.getLast?_eq_getElem?]
  rfl
theorem natV_last (l : List Nat) : (natV l).getLast? = l.getLast?.map fun (x : Nat) => V.int (x : Int) := List.getLast?_map
theorem natV_len (l : List Nat) : (natV l).length = l.length := List.length_map ..
theorem places_step (l : List Bool) (i : Nat) : placesTo l (i + 1) = placesTo l i ++ (if l.getD i false = true then [i] else []) := placesTo_succ l i
theorem natV_snoc (l : List Nat) (x : Nat) : natV l ++ [V.int (x : Int)] = natV (l ++ [x]) := by
  show _ = List.map _ _
  rw [List.map_append]
  rfl

def spFrom : Sp := fun vs H Q _ => ∃ (x : V) (A T : List Bool) (n : Nat), vs = [x, .int n] ∧ Dt H x (wdD A T) ∧ 0 < T.length ∧ Q (optV (firstW (itemW A T) n (max n A.length + T.length - n))) H
theorem ok_least_from (T : Tx K mg) : FnG P w K mg base CX0 2 T.a_least_from T.d_least_from ["widths", "width"] spFrom := by
  have G_is_in := ok_is_in (P := P) (w := w) (base := base) T
  refine bodyG0 T.F_least_from sc_least_from (fun vs H Q E h => ?_) (fun cdv A outer s H vs Q E gd hr h => ?_)
  · obtain ⟨x, B, U, n, rfl, _⟩ := h; rfl
  · obtain ⟨x, B, U, n, rfl, hx, ht, q⟩ := h
    refine ⟨_, (pss_cons (ps_for PassesOwn.never rfl (pi_rangeA (by rfl) T.z_range (pa_cons (pv 1) (pa_cons (pe_op op_add (pe_callB (call_max2 rfl) (by rfl) T.z_max (by decide +kernel) (pa_cons (pv 1) (pa_cons (pe_callB (call_lenK (K := K) rfl) (by rfl) T.z_len (by decide +kernel) (pa_cons (pe_ix (ix_tupK (K := K) rfl) (pv 0) pe_int (fun _ _ => rfl)) pa_nil)) pa_nil))) (pe_callB (call_lenK (K := K) rfl) (by rfl) T.z_len (by decide +kernel) (pa_cons (pe_ix (ix_tupK (K := K) rfl) (pv 0) pe_int (fun _ _ => rfl)) pa_nil))) pa_nil))) (pg_name (i := 2) sc_least_from.nd rfl (Or.inl rfl)) (pss_one (ps_if (pt_val (pe_g G_is_in gd (hr.mono (by decide)) (by rfl) T.g_is_in T.F_is_in.kp T.b_is_in .nil pass0 (pa_cons (pv 0) (pa_cons (pv 2) pa_nil)))) (pss_one (ps_ret (pv 2))) pss_nil)))
      (pss_one (ps_ret pe_non))), ?_⟩
    obtain ⟨a, b, c, rfl, ha, hb, hc⟩ := hx.wd
    have sa : SqL K H b (blV B) := .inl (.inl hb)
    have st : SqL K H c (blV U) := .inl (.inl hc)
    have sq : SqT K H a [.ref b, .ref c] := .inl (.inl ha)
    have eh : ((if ((blV B).length : Int) > (n : Int) then ((blV B).length : Int) else (n : Int)) + ((blV U).length : Int) - (n : Int)).toNat = max n B.length + U.length - n := by
      rw [List.length_map, List.length_map]
      split <;> omega
    refine ⟨_, rfl, _, rfl, _, rfl, a, _, 0, _, rfl, rfl, sq, rfl, b, _, rfl, .inl sa, _, _, rfl, _, rfl, a, _, 1, _, rfl, rfl, sq, rfl, c, _, rfl, .inl st, _, _, rfl, rfl, _, _, rfl, ?_⟩
    rw [eh]
    generalize max n B.length + U.length - n = m at q
    refine for_range (lo := (n : Int)) (n := m) (fun i σ H' => H' = H ∧ (∀ j, j < i → itemW B U (n + j) = false) ∧ ∃ y : Option V, σ = [some (.ref a), some (.int (n : Int)), y]) ⟨rfl, (fun j hj => by omega), none, rfl⟩ ?_ ?_
    · rintro i σ H' hi ⟨rfl, no, y, rfl⟩
      refine ⟨_, rfl, _, rfl, _, B, U, n + i, rfl, hx, ht, _, rfl, ?_⟩
      cases hv : itemW B U (n + i) with
      | true =>
        rw [firstW_some no hi hv] at q
        exact iteT ⟨_, rfl, q⟩
      | false =>
        refine iteF ⟨rfl, fun j hj => ?_, _, rfl⟩
        by_cases e : j < i
        · exact no j e
        · rw [show j = i by omega]; exact hv
    · rintro σ H' ⟨rfl, no, y, rfl⟩
      rw [firstW_none no] at q
      exact q

def spFirst : Sp := fun vs H Q _ => ∃ (x : V) (A T : List Bool) (n m : Nat), vs = [x, .int n, .int m] ∧ Dt H x (wdD A T) ∧ 0 < T.length ∧ Q (optV (firstW (itemW A T) n (m - n))) H
theorem ok_law_first (T : Tx K mg) : FnG P w K mg base CX0 2 T.a_law_first T.d_law_first ["_law_told", "_law_low", "_law_high"] spFirst := by
  have G_law_item := ok_law_item (P := P) (w := w) (base := base) T
  refine bodyG0 T.F_law_first sc_law_first (fun vs H Q E h => ?_) (fun cdv A outer s H vs Q E gd hr h => ?_)
  · obtain ⟨x, B, U, n, m, rfl, _⟩ := h; rfl
  · obtain ⟨x, B, U, n, m, rfl, hx, ht, q⟩ := h
    refine ⟨_, (pss_cons (ps_for PassesOwn.never rfl (pi_rangeA (by rfl) T.z_range (pa_cons (pv 1) (pa_cons (pv 2) pa_nil))) (pg_name (i := 3) sc_law_first.nd rfl (Or.inl rfl)) (pss_one (ps_if (pt_val (pe_g G_law_item gd (hr.mono (by decide)) (by rfl) T.g_law_item T.F_law_item.kp T.b_law_item .nil pass0 (pa_cons (pv 0) (pa_cons (pv 3) pa_nil)))) (pss_one (ps_ret (pv 3))) pss_nil)))
      (pss_one (ps_ret pe_non))), ?_⟩
    have eh : ((m : Int) - (n : Int)).toNat = m - n := by omega
    refine ⟨_, rfl, _, rfl, _, _, rfl, ?_⟩
    rw [eh]
    generalize m - n = m2 at q
    refine for_range (lo := (n : Int)) (n := m2) (fun i σ H' => H' = H ∧ (∀ j, j < i → itemW B U (n + j) = false) ∧ ∃ y : Option V, σ = [some x, some (.int (n : Int)), some (.int (m : Int)), y]) ⟨rfl, (fun j hj => by omega), none, rfl⟩ ?_ ?_
    · rintro i σ H' hi ⟨rfl, no, y, rfl⟩
      refine ⟨_, rfl, _, rfl, _, B, U, n + i, rfl, hx, ht, _, rfl, ?_⟩
      cases hv : itemW B U (n + i) with
      | true =>
        rw [firstW_some no hi hv] at q
        exact iteT ⟨_, rfl, q⟩
      | false =>
        refine iteF ⟨rfl, fun j hj => ?_, _, rfl⟩
        by_cases e : j < i
        · exact no j e
        · rw [show j = i by omega]; exact hv
    · rintro σ H' ⟨rfl, no, y, rfl⟩
      rw [firstW_none no] at q
      exact q

def spLeast : Sp := fun vs H Q _ => ∃ (x : V) (A T : List Bool), vs = [x] ∧ WdOk H x A T ∧ ∀ H', Same H H' → Q (optV (firstW (itemW A T) 0 (A.length + T.length))) H'
theorem ok_least_width (T : Tx K mg) : FnG P w K mg base CX0 4 T.a_least_width T.d_least_width ["widths"] spLeast := by
  have G_check_widths := ok_check_widths (P := P) (w := w) (base := base) T
  have G_least_from := ok_least_from (P := P) (w := w) (base := base) T
  refine bodyG0 T.F_least_width sc_least_width (fun vs H Q E h => ?_) (fun cdv A outer s H vs Q E gd hr h => ?_)
  · obtain ⟨x, B, U, rfl, _⟩ := h; rfl
  · obtain ⟨x, B, U, rfl, ok, q⟩ := h
    refine ⟨_, (pss_cons (ps_expr (pe_g G_check_widths gd (hr.mono (by decide)) (by rfl) T.g_check_widths T.F_check_widths.kp T.b_check_widths .nil pass0 (pa_cons (pv 0) pa_nil)))
      (pss_one (ps_ret (pe_g G_least_from gd (hr.mono (by decide)) (by rfl) T.g_least_from T.F_least_from.kp T.b_least_from .nil pass0 (pa_cons (pv 0) (pa_cons pe_int pa_nil)))))), ?_⟩
    refine ⟨_, rfl, x, B, U, rfl, ok, fun H1 e1 => ⟨_, rfl, x, B, U, 0, rfl, ok.dt.to e1, ok.pos, ?_⟩⟩
    rw [show max 0 B.length + U.length - 0 = B.length + U.length by omega]
    exact q H1 e1
def spNext : Sp := fun vs H Q _ => ∃ (x : V) (A T : List Bool) (n : Nat), vs = [x, .int n] ∧ WdOk H x A T ∧ ∀ H', Same H H' → Q (optV (firstW (itemW A T) (n + 1) (max (n + 1) A.length + T.length - (n + 1)))) H'
theorem ok_next_width (T : Tx K mg) : FnG P w K mg base CX0 4 T.a_next_width T.d_next_width ["widths", "width"] spNext := by
  have G_check_widths := ok_check_widths (P := P) (w := w) (base := base) T
  have G_check_wide := ok_check_wide (P := P) (w := w) (base := base) T
  have G_least_from := ok_least_from (P := P) (w := w) (base := base) T
  refine bodyG0 T.F_next_width sc_next_width (fun vs H Q E h => ?_) (fun cdv A outer s H vs Q E gd hr h => ?_)
  · obtain ⟨x, B, U, n, rfl, _⟩ := h; rfl
  · obtain ⟨x, B, U, n, rfl, ok, q⟩ := h
    refine ⟨_, (pss_cons (ps_expr (pe_g G_check_widths gd (hr.mono (by decide)) (by rfl) T.g_check_widths T.F_check_widths.kp T.b_check_widths .nil pass0 (pa_cons (pv 0) pa_nil)))
      (pss_cons (ps_expr (pe_g G_check_wide gd (hr.mono (by decide)) (by rfl) T.g_check_wide T.F_check_wide.kp T.b_check_wide .nil pass0 (pa_cons (pv 1) pa_nil)))
      (pss_one (ps_ret (pe_g G_least_from gd (hr.mono (by decide)) (by rfl) T.g_least_from T.F_least_from.kp T.b_least_from .nil pass0 (pa_cons (pv 0) (pa_cons (pe_op op_add (pv 1) pe_int) pa_nil))))))), ?_⟩
    exact ⟨_, rfl, x, B, U, rfl, ok, fun H1 e1 => ⟨_, rfl, n, rfl, _, rfl, _, rfl, _, _, rfl, rfl, x, B, U, n + 1, rfl, ok.dt.to e1, ok.pos, q H1 e1⟩⟩

def spGreat : Sp := fun vs H Q _ => ∃ (x : V) (A T : List Bool), vs = [x] ∧ WdOk H x A T ∧ ∀ H', Same H H' → Q (optV (greatF A T)) H'
theorem ok_greatest_width (T : Tx K mg) : FnG P w K mg base CX0 4 T.a_greatest_width T.d_greatest_width ["widths"] spGreat := by
  have G_check_widths := ok_check_widths (P := P) (w := w) (base := base) T
  refine bodyG0 T.F_greatest_width sc_greatest_width (fun vs H Q E h => ?_) (fun cdv A outer s H vs Q E gd hr h => ?_)
  · obtain ⟨x, B, U, rfl, _⟩ := h; rfl
  · obtain ⟨x, B, U, rfl, ok, q⟩ := h
    refine ⟨_, (pss_cons (ps_expr (pe_g G_check_widths gd (hr.mono (by decide)) (by rfl) T.g_check_widths T.F_check_widths.kp T.b_check_widths .nil pass0 (pa_cons (pv 0) pa_nil)))
      (pss_cons (ps_if (pt_val (pe_callB (cr_any rfl) (by rfl) T.z_any (by decide +kernel) (pa_cons (pe_ix (ix_tupK (K := K) rfl) (pv 0) pe_int (fun _ _ => rfl)) pa_nil))) (pss_one (ps_ret pe_non)) pss_nil)
      (pss_cons (ps_setLc (i := 1) (own := [("width", 2), ("told", 3)]) (g := gTup K 2 (gCons (gName 2) (gCons (gName 3) gNil))) rfl sc_greatest_width.nd rfl rfl (sw_true rfl rfl rfl (by decide +kernel)) (pi_enum (by rfl) T.z_enumerate (pa_cons (pe_ix (ix_tupK (K := K) rfl) (pv 0) pe_int (fun _ _ => rfl)) pa_nil)) (blkOk_by (N := ["widths", "found", "width", "told"]) (sc := defScope s_greatest_width) (by decide +kernel)) (fun _ _ _ _ _ => (pg_tup (by rfl) (pgs_cons (pg_name (i := 2) sc_greatest_width.nd rfl (Or.inl rfl)) (pgs_cons (pg_name (i := 3) sc_greatest_width.nd rfl (Or.inl rfl)) pgs_nil)))) (fun _ _ _ _ _ => (pts_one (pt_val (pv 3)))) (fun _ _ _ _ _ => (pv 2)))
      (pss_one (ps_ret (pe_ifExp (pt_cmpR op_gt (pe_callB (call_lenK (K := K) rfl) (by rfl) T.z_len (by decide +kernel) (pa_cons (pv 1) pa_nil)) pe_int (nomark _)) (pe_ix (ix_listK (K := K) rfl) (pv 1) (pe_un un_neg pe_int) (fun _ _ => rfl)) pe_non)))))), ?_⟩
    refine ⟨_, rfl, x, B, U, rfl, ok, fun H1 e1 => ?_⟩
    have ok1 := ok.to e1
    have b1 := ok.a
    obtain ⟨a, b, c, rfl, ha, hb, hc⟩ := ok1.dt.wd
    have sa : SqL K H1 b (blV B) := .inl (.inl hb)
    have st : SqL K H1 c (blV U) := .inl (.inl hc)
    have sq : SqT K H1 a [.ref b, .ref c] := .inl (.inl ha)
    refine ⟨_, rfl, a, _, 1, _, rfl, rfl, sq, rfl, c, U, rfl, st, _, rfl, ?_⟩
    unfold greatF at q
    cases hany : U.any id with
    | true =>
      rw [hany, if_pos rfl] at q
      exact iteT (q H1 e1)
    | false =>
      rw [hany, if_neg Bool.false_ne_true] at q
      refine iteF ⟨_, rfl, a, _, 0, _, rfl, rfl, sq, rfl, b, _, rfl, sa, fun D hD => ?_⟩
      refine lc_it walk_enum (fun i H2 => Same H1 H2 ∧ H2 D = some (.lst (natV (placesTo B i)))) ⟨same_new' hD, upd_same⟩ (fun i H2 _ e => e.1.seq sa) ?_ ?_
      · rintro i x H2 H3 hi ⟨s2, e2⟩ ⟨T', x1, x2, rfl, hT, rfl, f1, f2⟩
        cases f1
        have f2 : (blV B)[i]? = some x2 := f2
        obtain ⟨il, rfl⟩ := bl_get f2
        refine ⟨T', [.int i, .bl (B.getD i false)], rfl, .inl (.inl upd_same), rfl, _, _, rfl, _, _, rfl, rfl, ?_⟩
        have nD : D ≠ T' := ne_of_none e2 hT
        have s3 : Same H1 (upd H2 T' (.tup [.int i, .bl (B.getD i false)])) := s2.trans (same_new' hT)
        have e3 : (upd H2 T' (.tup [.int i, .bl (B.getD i false)])) D = some (.lst (natV (placesTo B i))) := by rw [upd_ne nD]; exact e2
        refine ⟨rfl, _, rfl, _, rfl, ?_⟩
        have ps := places_step B i
        cases hb2 : B.getD i false with
        | true =>
          rw [if_pos hb2] at ps
          rw [hb2] at s3 e3
          have lp := placesTo_len B i (by omega)
          have lc := List.count_le_length (a := true) (l := B.take i)
          rw [List.length_take] at lc
          refine iteT ⟨_, rfl, _, e3, by rw [natV_len]; exact small1000 (by omega), fun g o hg => ?_, ?_⟩
          · rw [upd_ne (ne_of_none hg hD)]
            exact s3 g o hg
          · rw [upd_same, ps, natV_snoc]
        | false =>
          rw [if_neg (by rw [hb2]; exact Bool.false_ne_true), List.append_nil] at ps
          rw [hb2] at s3 e3
          exact iteF ⟨s3, by rw [ps]; exact e3⟩
      rintro H2 ⟨s2, e2⟩
      rw [show (blV B).length = B.length from List.length_map ..] at e2
      have e2 : H2 D = some (.lst (natV (placesW B))) := e2
      refine ⟨_, rfl, D, _, rfl, .inl (.inl (.inl e2)), _, _, rfl, rfl, _, rfl, ?_⟩
      rw [natV_len]
      have q := q H2 (e1.trans s2)
      revert e2 q
      generalize placesW B = l
      intro e2 q
      by_cases hl : (l.length : Int) > 0
      · have e : decide ((0 : Int) < (l.length : Int)) = true := decide_eq_true hl
        rw [e]
        have ln : 0 < (natV l).length := by rw [natV_len]; omega
        obtain ⟨y, hy⟩ : ∃ y, l.getLast? = some y := by
          cases z : l.getLast? with
          | none => rw [List.getLast?_eq_none_iff] at z; rw [z] at hl; exact absurd hl (by decide)
          | some y => exact ⟨y, rfl⟩
        rw [hy] at q
        exact iteT ⟨_, rfl, _, rfl, _, _, _, _, rfl, rfl, .inl (.inl e2), (by rw [atI_neg ln, natV_last, hy]; rfl), q⟩
      · have e : decide ((0 : Int) < (l.length : Int)) = false := decide_eq_false hl
        rw [e]
        have : l = [] := List.length_eq_zero_iff.mp (by omega)
        rw [this] at q
        exact iteF q

def spPlaces : Sp := fun vs H Q _ => ∃ (b : Addr) (l : List Bool), vs = [.ref b] ∧ H b = some (.lst (blV l)) ∧ l.length ≤ 1000 ∧ ∀ (p : Addr) (H' : Hp), Same H H' → H' p = some (.lst (natV (placesW l))) → Q (.ref p) H'
theorem ok_places_told (T : Tx K mg) : FnG P w K mg base CX0 1 T.a_places_told T.d_places_told ["told"] spPlaces := by
  refine bodyG0 T.F_places_told sc_places_told (fun vs H Q E h => ?_) (fun cdv A outer s H vs Q E gd hr h => ?_)
  · obtain ⟨b, l, rfl, _⟩ := h; rfl
  · obtain ⟨b, B, rfl, hb, b1, q⟩ := h
    refine ⟨_, (pss_one (ps_ret (pe_lc (own := [("place", 1), ("item", 2)]) (g := gTup K 2 (gCons (gName 1) (gCons (gName 2) gNil))) rfl sc_places_told.nd (pi_enum (by rfl) T.z_enumerate (pa_cons (pv 0) pa_nil)) (blkOk_by (N := ["told", "place", "item"]) (sc := defScope s_places_told) (by decide +kernel)) (fun _ _ _ _ _ => (pg_tup (by rfl) (pgs_cons (pg_name (i := 1) sc_places_told.nd rfl (Or.inl rfl)) (pgs_cons (pg_name (i := 2) sc_places_told.nd rfl (Or.inl rfl)) pgs_nil)))) (fun _ _ _ _ _ => (pts_one (pt_val (pv 2)))) (fun _ _ _ _ _ => (pv 1))))), ?_⟩
    have sa : SqL K H b (blV B) := .inl (.inl hb)
    refine ⟨_, rfl, b, _, rfl, sa, fun D hD => ?_⟩
    refine lc_it walk_enum (fun i H2 => Same H H2 ∧ H2 D = some (.lst (natV (placesTo B i)))) ⟨same_new' hD, upd_same⟩ (fun i H2 _ e => e.1.seq sa) ?_ ?_
    · rintro i x H2 H3 hi ⟨s2, e2⟩ ⟨T', x1, x2, rfl, hT, rfl, f1, f2⟩
      cases f1
      have f2 : (blV B)[i]? = some x2 := f2
      obtain ⟨il, rfl⟩ := bl_get f2
      refine ⟨T', [.int i, .bl (B.getD i false)], rfl, .inl (.inl upd_same), rfl, _, _, rfl, _, _, rfl, rfl, ?_⟩
      have nD : D ≠ T' := ne_of_none e2 hT
      have s3 : Same H (upd H2 T' (.tup [.int i, .bl (B.getD i false)])) := s2.trans (same_new' hT)
      have e3 : (upd H2 T' (.tup [.int i, .bl (B.getD i false)])) D = some (.lst (natV (placesTo B i))) := by rw [upd_ne nD]; exact e2
      refine ⟨rfl, _, rfl, _, rfl, ?_⟩
      have ps := places_step B i
      cases hb2 : B.getD i false with
      | true =>
        rw [if_pos hb2] at ps
        rw [hb2] at s3 e3
        have lp := placesTo_len B i (by omega)
        have lc := List.count_le_length (a := true) (l := B.take i)
        rw [List.length_take] at lc
        refine iteT ⟨_, rfl, _, e3, by rw [natV_len]; exact small1000 (by omega), fun g o hg => ?_, ?_⟩
        · rw [upd_ne (ne_of_none hg hD)]
          exact s3 g o hg
        · rw [upd_same, ps, natV_snoc]
      | false =>
        rw [if_neg (by rw [hb2]; exact Bool.false_ne_true), List.append_nil] at ps
        rw [hb2] at s3 e3
        exact iteF ⟨s3, by rw [ps]; exact e3⟩
    rintro H2 ⟨s2, e2⟩
    rw [show (blV B).length = B.length from List.length_map ..] at e2
    exact q D H2 s2 e2

def spBelow : Sp := fun vs H Q _ => ∃ (x : V) (A T : List Bool) (n : Nat), vs = [x, .int n] ∧ WdOk H x A T ∧ n < 2 ^ 200 ∧ ∀ H', Same H H' → Q (.int (belowF A T n : Nat)) H'
theorem ok_how_many_below (T : Tx K mg) : FnG P w K mg base CX0 4 T.a_how_many_below T.d_how_many_below ["widths", "width"] spBelow := by
  have G_check_widths := ok_check_widths (P := P) (w := w) (base := base) T
  have G_check_wide := ok_check_wide (P := P) (w := w) (base := base) T
  refine bodyG0 T.F_how_many_below sc_how_many_below (fun vs H Q E h => ?_) (fun cdv A outer s H vs Q E gd hr h => ?_)
  · obtain ⟨x, B, U, n, rfl, _⟩ := h; rfl
  · obtain ⟨x, B, U, n, rfl, ok, big, q⟩ := h
    refine ⟨_, (pss_cons (ps_expr (pe_g G_check_widths gd (hr.mono (by decide)) (by rfl) T.g_check_widths T.F_check_widths.kp T.b_check_widths .nil pass0 (pa_cons (pv 0) pa_nil)))
      (pss_cons (ps_expr (pe_g G_check_wide gd (hr.mono (by decide)) (by rfl) T.g_check_wide T.F_check_wide.kp T.b_check_wide .nil pass0 (pa_cons (pv 1) pa_nil)))
      (pss_cons (ps_asg (pv 0) (pg_tup (by rfl) (pgs_cons (pg_name (i := 2) sc_how_many_below.nd rfl (Or.inl rfl)) (pgs_cons (pg_name (i := 3) sc_how_many_below.nd rfl (Or.inl rfl)) pgs_nil))))
      (pss_cons (ps_if (pt_cmpR op_le (pv 1) (pe_callB (call_lenK (K := K) rfl) (by rfl) T.z_len (by decide +kernel) (pa_cons (pv 2) pa_nil)) (nomark _)) (pss_one (ps_ret (pe_callB (cr_sumB (K := K) rfl rfl) (by rfl) T.z_sum (by decide +kernel) (pa_cons (pe_slice (sl_listK (K := K) rfl) (pv 2) po_none (po_some (pv 1))) pa_nil)))) pss_nil)
      (pss_cons (ps_asg (pe_callB call_divmodW (by rfl) T.z_divmod (by decide +kernel) (pa_cons (pe_op op_sub (pv 1) (pe_callB (call_lenK (K := K) rfl) (by rfl) T.z_len (by decide +kernel) (pa_cons (pv 2) pa_nil))) (pa_cons (pe_callB (call_lenK (K := K) rfl) (by rfl) T.z_len (by decide +kernel) (pa_cons (pv 3) pa_nil)) pa_nil))) (pg_tup (by rfl) (pgs_cons (pg_name (i := 4) sc_how_many_below.nd rfl (Or.inl rfl)) (pgs_cons (pg_name (i := 5) sc_how_many_below.nd rfl (Or.inl rfl)) pgs_nil))))
      (pss_one (ps_ret (pe_op op_add (pe_op op_add (pe_callB (cr_sumB (K := K) rfl rfl) (by rfl) T.z_sum (by decide +kernel) (pa_cons (pv 2) pa_nil)) (pe_op op_mulX (pv 4) (pe_callB (cr_sumB (K := K) rfl rfl) (by rfl) T.z_sum (by decide +kernel) (pa_cons (pv 3) pa_nil)))) (pe_callB (cr_sumB (K := K) rfl rfl) (by rfl) T.z_sum (by decide +kernel) (pa_cons (pe_slice (sl_listK (K := K) rfl) (pv 3) po_none (po_some (pv 5))) pa_nil)))))))))), ?_⟩
    refine ⟨_, rfl, x, B, U, rfl, ok, fun H1 e1 => ⟨_, rfl, n, rfl, ?_⟩⟩
    have ok1 := ok.to e1
    have u0 := ok.pos
    have u1 := ok.t
    obtain ⟨a, b, c, rfl, ha, hb, hc⟩ := ok1.dt.wd
    have sa : SqL K H1 b (blV B) := .inl (.inl hb)
    have st : SqL K H1 c (blV U) := .inl (.inl hc)
    have sq : SqT K H1 a [.ref b, .ref c] := .inl (.inl ha)
    have lb : (blV B).length = B.length := List.length_map ..
    have lu : (blV U).length = U.length := List.length_map ..
    refine ⟨_, rfl, a, _, rfl, sq, rfl, _, _, rfl, _, _, rfl, rfl, ?_⟩
    refine ⟨_, rfl, _, rfl, b, _, rfl, .inl sa, _, _, rfl, rfl, _, rfl, ?_⟩
    rw [lb]
    by_cases hn : (n : Int) ≤ (B.length : Nat)
    · rw [decide_eq_true hn]
      refine iteT ⟨_, rfl, _, rfl, _, rfl, b, _, rfl, sa, fun p hp => ?_⟩
      rw [cut_to]
      refine ⟨p, B.take n, rfl, .inl (.inl upd_same), ?_⟩
      have q := q _ (e1.trans (same_new' (o := .lst (blV (B.take n))) hp))
      unfold belowF at q
      rw [if_pos (by omega)] at q
      exact q
    · rw [decide_eq_false hn]
      have hn : B.length < n := by omega
      have e3 : (n : Int) - ((blV B).length : Nat) = ((n - B.length : Nat) : Int) := by rw [lb, Int.ofNat_sub (by omega)]
      have e4 : ((blV U).length : Int) = ((U.length : Nat) : Int) := by rw [lu]
      refine iteF ⟨_, rfl, _, rfl, b, _, rfl, .inl sa, _, _, rfl, rfl, _, rfl, c, _, rfl, .inl st, ?_⟩
      dsimp only
      rw [e3, e4]
      refine ⟨_, _, rfl, div_nat (by omega) u0, fun p hp => ?_⟩
      have f1 := same_new' (o := .tup [.int (((n - B.length : Nat) : Int) / ((U.length : Nat) : Int)), .int (((n - B.length : Nat) : Int) % ((U.length : Nat) : Int))]) hp
      have hp1 : (upd H1 p (.tup [.int (((n - B.length : Nat) : Int) / ((U.length : Nat) : Int)), .int (((n - B.length : Nat) : Int) % ((U.length : Nat) : Int))])) p = some (.tup [.int (((n - B.length : Nat) : Int) / ((U.length : Nat) : Int)), .int (((n - B.length : Nat) : Int) % ((U.length : Nat) : Int))]) := upd_same
      generalize (upd H1 p (.tup [.int (((n - B.length : Nat) : Int) / ((U.length : Nat) : Int)), .int (((n - B.length : Nat) : Int) % ((U.length : Nat) : Int))])) = H2 at f1 hp1
      rw [← Int.natCast_ediv, ← Int.natCast_emod] at hp1
      refine ⟨p, _, rfl, .inl (.inl hp1), rfl, _, _, rfl, _, _, rfl, rfl, ?_⟩
      have sa2 : SqL K H2 b (blV B) := .inl (.inl (f1 _ _ hb))
      have st2 : SqL K H2 c (blV U) := .inl (.inl (f1 _ _ hc))
      have ml : (n - B.length) / U.length < 2 ^ 200 := Nat.lt_of_le_of_lt (Nat.div_le_self _ _) (by omega)
      have cl := List.count_le_length (a := true) (l := U)
      refine ⟨_, rfl, b, B, rfl, sa2, _, rfl, _, rfl, c, U, rfl, st2, _, _, rfl, rfl, (by exact mulx_ok (a := 200) (b := 20) (by rw [Int.natAbs_natCast]; exact ml) (by rw [Int.natAbs_natCast]; unfold cntB; omega) (by decide)), _, _, rfl, rfl, _, rfl, _, rfl, _, rfl, c, _, rfl, st2, fun p3 hp3 => ?_⟩
      rw [cut_to]
      refine ⟨p3, U.take ((n - B.length) % U.length), rfl, .inl (.inl upd_same), _, _, rfl, rfl, ?_⟩
      have q := q _ ((e1.trans f1).trans (same_new' (o := .lst (blV (U.take ((n - B.length) % U.length)))) hp3))
      rw [below_at hn] at q
      have ee : ((cntB B : Nat) : Int) + (((n - B.length) / U.length : Nat) : Int) * ((cntB U : Nat) : Int) + ((cntB (U.take ((n - B.length) % U.length)) : Nat) : Int) = ((B.count true + (n - B.length) / U.length * U.count true + (U.take ((n - B.length) % U.length)).count true : Nat) : Int) := by
        rw [Int.natCast_add, Int.natCast_add, Int.natCast_mul]; rfl
      rw [← ee] at q
      exact q

end

end K42

set_option Elab.async false
set_option linter.all false
set_option maxRecDepth 100000
set_option maxHeartbeats 4000000
namespace K42
open PySem PySem.Spec PyProof.Rows L2 Hw
section
variable {P : Program} {w : World} {K : PySem.W.Frag} {mg : Str → Option Value} {base : Heap}

def spNumb : Sp := fun vs H Q _ => ∃ (x : V) (A T : List Bool) (n : Nat), vs = [x, .int n] ∧ WdOk H x A T ∧ n < 2 ^ 200 ∧ ∀ H', Same H H' → Q (optV (numbF A T n)) H'
theorem ok_width_numbered (T : Tx K mg) : FnG P w K mg base CX0 4 T.a_width_numbered T.d_width_numbered ["widths", "number"] spNumb := by
  have G_check_widths := ok_check_widths (P := P) (w := w) (base := base) T
  have G_is_count := ok_is_count (P := P) (w := w) (base := base) T
  have G_places_told := ok_places_told (P := P) (w := w) (base := base) T
  refine bodyG0 T.F_width_numbered sc_width_numbered (fun vs H Q E h => ?_) (fun cdv A outer s H vs Q E gd hr h => ?_)
  · obtain ⟨x, B, U, n, rfl, _⟩ := h; rfl
  · obtain ⟨x, B, U, n, rfl, ok, big, q⟩ := h
    refine ⟨_, (pss_cons (ps_expr (pe_g G_check_widths gd (hr.mono (by decide)) (by rfl) T.g_check_widths T.F_check_widths.kp T.b_check_widths .nil pass0 (pa_cons (pv 0) pa_nil)))
      (pss_cons (ps_if (pt_not (pt_val (pe_g G_is_count gd (hr.mono (by decide)) (by rfl) T.g_is_count T.F_is_count.kp T.b_is_count .nil pass0 (pa_cons (pv 1) pa_nil)))) (pss_one ps_never) pss_nil)
      (pss_cons (ps_asg (pv 0) (pg_tup (by rfl) (pgs_cons (pg_name (i := 2) sc_width_numbered.nd rfl (Or.inl rfl)) (pgs_cons (pg_name (i := 3) sc_width_numbered.nd rfl (Or.inl rfl)) pgs_nil))))
      (pss_cons (ps_if (pt_cmpR op_lt (pv 1) (pe_callB (cr_sumB (K := K) rfl rfl) (by rfl) T.z_sum (by decide +kernel) (pa_cons (pv 2) pa_nil)) (nomark _)) (pss_one (ps_ret (pe_ix (ix_listK (K := K) rfl) (pe_g G_places_told gd (hr.mono (by decide)) (by rfl) T.g_places_told T.F_places_told.kp T.b_places_told .nil pass0 (pa_cons (pv 2) pa_nil)) (pv 1) (fun _ _ => rfl)))) pss_nil)
      (pss_cons (ps_if (pt_not (pt_val (pe_callB (cr_any rfl) (by rfl) T.z_any (by decide +kernel) (pa_cons (pv 3) pa_nil)))) (pss_one (ps_ret pe_non)) pss_nil)
      (pss_cons (ps_asg (pe_callB call_divmodW (by rfl) T.z_divmod (by decide +kernel) (pa_cons (pe_op op_sub (pv 1) (pe_callB (cr_sumB (K := K) rfl rfl) (by rfl) T.z_sum (by decide +kernel) (pa_cons (pv 2) pa_nil))) (pa_cons (pe_callB (cr_sumB (K := K) rfl rfl) (by rfl) T.z_sum (by decide +kernel) (pa_cons (pv 3) pa_nil)) pa_nil))) (pg_tup (by rfl) (pgs_cons (pg_name (i := 4) sc_width_numbered.nd rfl (Or.inl rfl)) (pgs_cons (pg_name (i := 5) sc_width_numbered.nd rfl (Or.inl rfl)) pgs_nil))))
      (pss_one (ps_ret (pe_op op_add (pe_op op_add (pe_callB (call_lenK (K := K) rfl) (by rfl) T.z_len (by decide +kernel) (pa_cons (pv 2) pa_nil)) (pe_op op_mulX (pv 4) (pe_callB (call_lenK (K := K) rfl) (by rfl) T.z_len (by decide +kernel) (pa_cons (pv 3) pa_nil)))) (pe_ix (ix_listK (K := K) rfl) (pe_g G_places_told gd (hr.mono (by decide)) (by rfl) T.g_places_told T.F_places_told.kp T.b_places_told .nil pass0 (pa_cons (pv 3) pa_nil)) (pv 5) (fun _ _ => rfl))))))))))), ?_⟩
    refine ⟨_, rfl, x, B, U, rfl, ok, fun H1 e1 => ⟨_, rfl, n, rfl, true, rfl, iteF ?_⟩⟩
    have ok1 := ok.to e1
    have u0 := ok.pos
    have u1 := ok.t
    have b1 := ok.a
    obtain ⟨a, b, c, rfl, ha, hb, hc⟩ := ok1.dt.wd
    have sa : SqL K H1 b (blV B) := .inl (.inl hb)
    have st : SqL K H1 c (blV U) := .inl (.inl hc)
    have sq : SqT K H1 a [.ref b, .ref c] := .inl (.inl ha)
    have lb : (blV B).length = B.length := List.length_map ..
    have lu : (blV U).length = U.length := List.length_map ..
    have cl := List.count_le_length (a := true) (l := U)
    refine ⟨_, rfl, a, _, rfl, sq, rfl, _, _, rfl, _, _, rfl, rfl, ?_⟩
    refine ⟨_, rfl, _, rfl, b, B, rfl, sa, _, _, rfl, rfl, _, rfl, ?_⟩
    unfold numbF at q
    by_cases hn : (n : Int) < (cntB B : Nat)
    · rw [decide_eq_true hn]
      have hn : n < B.count true := by unfold cntB at hn; omega
      rw [if_pos hn] at q
      refine iteT ⟨_, rfl, b, B, rfl, hb, b1, fun p H2 e2 hp => ?_⟩
      have il : n < (placesW B).length := by rw [placesW_len]; exact hn
      have ev := List.getElem?_eq_getElem il
      have q := q H2 (e1.trans e2)
      rw [ev] at q
      exact ⟨_, rfl, _, _, _, _, rfl, rfl, .inl (.inl hp), atI_nat (nat_at ev), q⟩
    · rw [decide_eq_false hn]
      have hn : ¬ n < B.count true := by unfold cntB at hn; omega
      rw [if_neg hn] at q
      refine iteF ⟨_, rfl, c, U, rfl, st, _, rfl, ?_⟩
      cases hany : U.any id with
      | false =>
        rw [hany, if_neg Bool.false_ne_true] at q
        exact iteT (q H1 e1)
      | true =>
        rw [hany, if_pos rfl] at q
        have t0 : 0 < cntB U := (any_count U).mp hany
        have e3 : (n : Int) - ((cntB B : Nat) : Int) = ((n - cntB B : Nat) : Int) := by rw [Int.ofNat_sub (by unfold cntB; omega)]
        refine iteF ⟨_, rfl, _, rfl, b, B, rfl, sa, _, _, rfl, rfl, _, rfl, c, U, rfl, st, ?_⟩
        dsimp only
        rw [e3]
        refine ⟨_, _, rfl, div_nat (by omega) t0, fun p hp => ?_⟩
        have f1 := same_new' (o := .tup [.int (((n - cntB B : Nat) : Int) / ((cntB U : Nat) : Int)), .int (((n - cntB B : Nat) : Int) % ((cntB U : Nat) : Int))]) hp
        have hp1 : (upd H1 p (.tup [.int (((n - cntB B : Nat) : Int) / ((cntB U : Nat) : Int)), .int (((n - cntB B : Nat) : Int) % ((cntB U : Nat) : Int))])) p = some (.tup [.int (((n - cntB B : Nat) : Int) / ((cntB U : Nat) : Int)), .int (((n - cntB B : Nat) : Int) % ((cntB U : Nat) : Int))]) := upd_same
        generalize (upd H1 p (.tup [.int (((n - cntB B : Nat) : Int) / ((cntB U : Nat) : Int)), .int (((n - cntB B : Nat) : Int) % ((cntB U : Nat) : Int))])) = H2 at f1 hp1
        rw [← Int.natCast_ediv, ← Int.natCast_emod] at hp1
        refine ⟨p, _, rfl, .inl (.inl hp1), rfl, _, _, rfl, _, _, rfl, rfl, ?_⟩
        have sa2 : SqL K H2 b (blV B) := .inl (.inl (f1 _ _ hb))
        have st2 : SqL K H2 c (blV U) := .inl (.inl (f1 _ _ hc))
        have ml : (n - cntB B) / cntB U < 2 ^ 200 := Nat.lt_of_le_of_lt (Nat.div_le_self _ _) (by omega)
        refine ⟨_, rfl, b, _, rfl, .inl sa2, _, rfl, _, rfl, c, _, rfl, .inl st2, _, _, rfl, rfl, (by exact mulx_ok (a := 200) (b := 20) (by rw [Int.natAbs_natCast]; exact ml) (by rw [lu, Int.natAbs_natCast]; omega) (by decide)), _, _, rfl, rfl, _, rfl, c, U, rfl, f1 _ _ hc, u1, fun p3 H3 e3 hp3 => ?_⟩
        have il : (n - cntB B) % cntB U < (placesW U).length := by rw [placesW_len]; exact Nat.mod_lt _ t0
        have ev := List.getElem?_eq_getElem il
        have q := q H3 ((e1.trans f1).trans e3)
        unfold cntB at ev
        rw [ev] at q
        refine ⟨_, rfl, _, _, _, _, rfl, rfl, .inl (.inl hp3), atI_nat (nat_at ev), _, _, rfl, rfl, ?_⟩
        have ee : ((blV B).length : Int) + (((n - cntB B) / cntB U : Nat) : Int) * ((blV U).length : Int) + (((placesW U)[(n - B.count true) % U.count true] : Nat) : Int) = ((B.length + (n - B.count true) / U.count true * U.length + (placesW U)[(n - B.count true) % U.count true] : Nat) : Int) := by
          rw [lb, lu, Int.natCast_add, Int.natCast_add, Int.natCast_mul]; rfl
        have q : Q (.int ((B.length + (n - B.count true) / U.count true * U.length + (placesW U)[(n - B.count true) % U.count true] : Nat) : Int)) H3 := q
        rw [← ee] at q
        exact q

def spFigs : Sp := fun vs H Q _ => ∃ (b : Addr) (l : List Bool), vs = [.ref b] ∧ H b = some (.lst (blV l)) ∧ l.length ≤ 1000 ∧ ∀ (H' : Hp), Same H H' → Q (.str (figS l)) H'
theorem ok_figures_of (T : Tx K mg) : FnG P w K mg base CX0 1 T.a_figures_of T.d_figures_of ["told"] spFigs := by
  refine bodyG0 T.F_figures_of sc_figures_of (fun vs H Q E h => ?_) (fun cdv A outer s H vs Q E gd hr h => ?_)
  · obtain ⟨b, l, rfl, _⟩ := h; rfl
  · obtain ⟨b, B, rfl, hb, b1, q⟩ := h
    refine ⟨_, (pss_one (ps_ret (pe_join pe_str (pe_lc (own := [("item", 1)]) (g := gName 1) (tt := tYes) rfl sc_figures_of.nd (pi_list (pv 0)) (blkOk_by (N := ["told", "item"]) (sc := defScope s_figures_of) (by decide +kernel)) (fun _ _ _ _ _ => (pg_name (i := 1) sc_figures_of.nd rfl (Or.inl rfl))) (fun _ _ _ _ _ => pts_nil) (fun _ _ _ _ _ => (pe_ifExp (pt_val (pv 1)) pe_str pe_str)))))), ?_⟩
    have sa : SqL K H b (blV B) := .inl (.inl hb)
    refine ⟨⟨_, rfl⟩, _, rfl, b, rfl, ⟨_, sa⟩, fun D hD => ?_⟩
    refine lc_list (K := K) (a := b) (xs := blV B) (fun i H2 => Same H H2 ∧ H2 D = some (.lst ((B.take i).map fun x => V.str (figT x)))) ⟨same_new' hD, upd_same⟩ (fun i H2 _ e => e.1.seq sa) ?_ ?_
    · rintro i y H2 hi ⟨s2, e2⟩
      obtain ⟨il, rfl⟩ := bl_get hi
      refine ⟨rfl, yes_if ⟨_, rfl, _, rfl, ?_⟩⟩
      have stp : ∀ b : Bool, B.getD i false = b → ∃ acc, H2 D = some (.lst acc) ∧ acc.length < sizeLine ∧ Same H (upd H2 D (.lst (acc ++ [V.str (figT b)]))) ∧ (upd H2 D (.lst (acc ++ [V.str (figT b)]))) D = some (.lst ((B.take (i + 1)).map fun x => V.str (figT x))) := fun b hb2 => by
        refine ⟨_, e2, by rw [List.length_map, List.length_take]; exact small1000 (by omega), fun g o hg => ?_, ?_⟩
        · rw [upd_ne (ne_of_none hg hD)]
          exact s2 g o hg
        · rw [upd_same, List.take_add_one, List.getElem?_eq_getElem il, List.map_append, ← hb2, getD_lt il]
          rfl
      cases hb2 : B.getD i false with
      | true => exact iteT (stp true hb2)
      | false => exact iteF (stp false hb2)
    rintro H2 ⟨s2, e2⟩
    rw [show (blV B).length = B.length from List.length_map .., List.take_length] at e2
    have e3 : H2 D = some (.lst ((B.map figT).map V.str)) := by rw [List.map_map]; exact e2
    have jf : Txt.join ("" : Str) (B.map figT) = figS B := by rw [TL.join_eq, join_figs]
    have jl : ∀ l : List Bool, ((l.map figT).map (·.length)).sum = l.length := fun l => by
      induction l with
      | nil => rfl
      | cons b r ih =>
        have e1 : (figT b).length = 1 := by cases b <;> decide +kernel
        rw [List.map_cons, List.map_cons, List.sum_cons, ih, e1, List.length_cons]
        omega
    have jz : ((B.map figT).map (·.length)).sum + (B.map figT).length * ("" : Str).length ≤ 16777216 := by
      rw [jl, show ("" : Str).length = 0 by decide +kernel]
      omega
    refine ⟨_, D, B.map figT, rfl, rfl, .inl (.inl (.inl e3)), jz, ?_⟩
    rw [jf]
    exact q H2 s2

def spText : Sp := fun vs H Q _ => ∃ (x : V) (A T : List Bool), vs = [x] ∧ WdOk H x A T ∧ ∀ H', Same H H' → Q (.str (textS A T)) H'
theorem app_len (x y : Str) : (x ++ y).length = x.length + y.length := by
  show (x.cps ++ y.cps).size = _
  rw [Array.size_append]
  rfl
theorem ok_text_of_widths (T : Tx K mg) : FnG P w K mg base CX0 4 T.a_text_of_widths T.d_text_of_widths ["widths"] spText := by
  have G_check_widths := ok_check_widths (P := P) (w := w) (base := base) T
  have G_figures_of := ok_figures_of (P := P) (w := w) (base := base) T
  refine bodyG0 T.F_text_of_widths sc_text_of_widths (fun vs H Q E h => ?_) (fun cdv A outer s H vs Q E gd hr h => ?_)
  · obtain ⟨x, B, U, rfl, _⟩ := h; rfl
  · obtain ⟨x, B, U, rfl, ok, q⟩ := h
    refine ⟨_, (pss_cons (ps_expr (pe_g G_check_widths gd (hr.mono (by decide)) (by rfl) T.g_check_widths T.F_check_widths.kp T.b_check_widths .nil pass0 (pa_cons (pv 0) pa_nil)))
      (pss_one (ps_ret (pe_op op_add_str (pe_op op_add_str (pe_op op_add_str (pe_g G_figures_of gd (hr.mono (by decide)) (by rfl) T.g_figures_of T.F_figures_of.kp T.b_figures_of .nil pass0 (pa_cons (pe_ix (ix_tupK (K := K) rfl) (pv 0) pe_int (fun _ _ => rfl)) pa_nil)) pe_str) (pe_g G_figures_of gd (hr.mono (by decide)) (by rfl) T.g_figures_of T.F_figures_of.kp T.b_figures_of .nil pass0 (pa_cons (pe_ix (ix_tupK (K := K) rfl) (pv 0) pe_int (fun _ _ => rfl)) pa_nil))) pe_str)))), ?_⟩
    refine ⟨_, rfl, x, B, U, rfl, ok, fun H1 e1 => ?_⟩
    have ok1 := ok.to e1
    have b1 := ok.a
    have u1 := ok.t
    obtain ⟨a, b, c, rfl, ha, hb, hc⟩ := ok1.dt.wd
    have l1 : ("(" : Str).length = 1 := by decide +kernel
    have l2 : (")" : Str).length = 1 := by decide +kernel
    refine ⟨_, rfl, a, _, 0, _, rfl, rfl, .inl (.inl ha), rfl, b, B, rfl, hb, b1, fun H2 e2 => ?_⟩
    refine ⟨_, _, rfl, rfl, by rw [figS_len, l1, sizeLine_eq]; omega, ?_⟩
    refine ⟨_, rfl, a, _, 1, _, rfl, rfl, .inl (.inl (e2 _ _ ha)), rfl, c, U, rfl, e2 _ _ hc, u1, fun H3 e3 => ?_⟩
    refine ⟨_, _, rfl, rfl, by rw [app_len, figS_len, figS_len, l1, sizeLine_eq]; omega, ?_⟩
    refine ⟨_, _, rfl, rfl, by rw [app_len, app_len, figS_len, figS_len, l1, l2, sizeLine_eq]; omega, ?_⟩
    exact q H3 ((e1.trans e2).trans e3)

theorem ok_law_text (T : Tx K mg) : FnG P w K mg base CX0 1 T.a_law_text T.d_law_text ["_law_told"] spText := by
  refine bodyG0 T.F_law_text sc_law_text (fun vs H Q E h => ?_) (fun cdv A outer s H vs Q E gd hr h => ?_)
  · obtain ⟨x, B, U, rfl, _⟩ := h; rfl
  · obtain ⟨x, B, U, rfl, ok, q⟩ := h
    refine ⟨_, (pss_one (ps_ret (pe_op op_add_str (pe_op op_add_str (pe_op op_add_str (pe_join pe_str (pe_lc (own := [("_law_item_here", 1)]) (g := gName 1) (tt := tYes) rfl sc_law_text.nd (pi_list (pe_ix (ix_tupK (K := K) rfl) (pv 0) pe_int (fun _ _ => rfl))) (blkOk_by (N := ["_law_told", "_law_item_here"]) (sc := defScope s_law_text) (by decide +kernel)) (fun _ _ _ _ _ => (pg_name (i := 1) sc_law_text.nd rfl (Or.inl rfl))) (fun _ _ _ _ _ => pts_nil) (fun _ _ _ _ _ => (pe_ifExp (pt_val (pv 1)) pe_str pe_str)))) pe_str) (pe_join pe_str (pe_lc (own := [("_law_item_here", 1)]) (g := gName 1) (tt := tYes) rfl sc_law_text.nd (pi_list (pe_ix (ix_tupK (K := K) rfl) (pv 0) pe_int (fun _ _ => rfl))) (blkOk_by (N := ["_law_told", "_law_item_here"]) (sc := defScope s_law_text) (by decide +kernel)) (fun _ _ _ _ _ => (pg_name (i := 1) sc_law_text.nd rfl (Or.inl rfl))) (fun _ _ _ _ _ => pts_nil) (fun _ _ _ _ _ => (pe_ifExp (pt_val (pv 1)) pe_str pe_str))))) pe_str))), ?_⟩
    have b1 := ok.a
    have u1 := ok.t
    obtain ⟨a, b, c, rfl, ha, hb, hc⟩ := ok.dt.wd
    have sa : SqL K H b (blV B) := .inl (.inl hb)
    have l1 : ("(" : Str).length = 1 := by decide +kernel
    have l2 : (")" : Str).length = 1 := by decide +kernel
    refine ⟨⟨_, rfl⟩, _, rfl, a, _, 0, _, rfl, rfl, .inl (.inl ha), rfl, b, rfl, ⟨_, sa⟩, fun D hD => ?_⟩
    refine lc_list (K := K) (a := b) (xs := blV B) (fun i H2 => Same H H2 ∧ H2 D = some (.lst ((B.take i).map fun x => V.str (figT x)))) ⟨same_new' hD, upd_same⟩ (fun i H2 _ e => e.1.seq sa) ?_ ?_
    · rintro i y H2 hi ⟨s2, e2⟩
      obtain ⟨il, rfl⟩ := bl_get hi
      refine ⟨rfl, yes_if ⟨_, rfl, _, rfl, ?_⟩⟩
      have stp : ∀ b : Bool, B.getD i false = b → ∃ acc, H2 D = some (.lst acc) ∧ acc.length < sizeLine ∧ Same H (upd H2 D (.lst (acc ++ [V.str (figT b)]))) ∧ (upd H2 D (.lst (acc ++ [V.str (figT b)]))) D = some (.lst ((B.take (i + 1)).map fun x => V.str (figT x))) := fun b hb2 => by
        refine ⟨_, e2, by rw [List.length_map, List.length_take]; exact small1000 (by omega), fun g o hg => ?_, ?_⟩
        · rw [upd_ne (ne_of_none hg hD)]
          exact s2 g o hg
        · rw [upd_same, List.take_add_one, List.getElem?_eq_getElem il, List.map_append, ← hb2, getD_lt il]
          rfl
      cases hb2 : B.getD i false with
      | true => exact iteT (stp true hb2)
      | false => exact iteF (stp false hb2)
    rintro H2 ⟨s2, e2⟩
    rw [show (blV B).length = B.length from List.length_map .., List.take_length] at e2
    have e3 : H2 D = some (.lst ((B.map figT).map V.str)) := by rw [List.map_map]; exact e2
    have jf : Txt.join ("" : Str) (B.map figT) = figS B := by rw [TL.join_eq, join_figs]
    have jl : ∀ l : List Bool, ((l.map figT).map (·.length)).sum = l.length := fun l => by
      induction l with
      | nil => rfl
      | cons b r ih =>
        have e1 : (figT b).length = 1 := by cases b <;> decide +kernel
        rw [List.map_cons, List.map_cons, List.sum_cons, ih, e1, List.length_cons]
        omega
    have jz : ((B.map figT).map (·.length)).sum + (B.map figT).length * ("" : Str).length ≤ 16777216 := by
      rw [jl, show ("" : Str).length = 0 by decide +kernel]
      omega
    refine ⟨_, D, B.map figT, rfl, rfl, .inl (.inl (.inl e3)), jz, ?_⟩
    rw [jf]
    clear jz jf jl e3
    refine ⟨_, _, rfl, rfl, by rw [figS_len, l1, sizeLine_eq]; omega, ?_⟩
    have st : SqL K H2 c (blV U) := .inl (.inl (s2 _ _ hc))
    have s02 := s2
    clear e2 hD
    revert s2 st
    generalize D = D0
    intro s2 st
    refine ⟨⟨_, rfl⟩, _, rfl, a, _, 1, _, rfl, rfl, .inl (.inl (s02 _ _ ha)), rfl, c, rfl, ⟨_, st⟩, fun D hD => ?_⟩
    refine lc_list (K := K) (a := c) (xs := blV U) (fun i H4 => Same H2 H4 ∧ H4 D = some (.lst ((U.take i).map fun x => V.str (figT x)))) ⟨same_new' hD, upd_same⟩ (fun i H4 _ e => e.1.seq st) ?_ ?_
    · rintro i y H4 hi ⟨s2, e2⟩
      obtain ⟨il, rfl⟩ := bl_get hi
      refine ⟨rfl, yes_if ⟨_, rfl, _, rfl, ?_⟩⟩
      have stp : ∀ b : Bool, U.getD i false = b → ∃ acc, H4 D = some (.lst acc) ∧ acc.length < sizeLine ∧ Same H2 (upd H4 D (.lst (acc ++ [V.str (figT b)]))) ∧ (upd H4 D (.lst (acc ++ [V.str (figT b)]))) D = some (.lst ((U.take (i + 1)).map fun x => V.str (figT x))) := fun b hb2 => by
        refine ⟨_, e2, by rw [List.length_map, List.length_take]; exact small1000 (by omega), fun g o hg => ?_, ?_⟩
        · rw [upd_ne (ne_of_none hg hD)]
          exact s2 g o hg
        · rw [upd_same, List.take_add_one, List.getElem?_eq_getElem il, List.map_append, ← hb2, getD_lt il]
          rfl
      cases hb2 : U.getD i false with
      | true => exact iteT (stp true hb2)
      | false => exact iteF (stp false hb2)
    rintro H4 ⟨s2, e2⟩
    rw [show (blV U).length = U.length from List.length_map .., List.take_length] at e2
    have e3 : H4 D = some (.lst ((U.map figT).map V.str)) := by rw [List.map_map]; exact e2
    have jf : Txt.join ("" : Str) (U.map figT) = figS U := by rw [TL.join_eq, join_figs]
    have jl : ∀ l : List Bool, ((l.map figT).map (·.length)).sum = l.length := fun l => by
      induction l with
      | nil => rfl
      | cons b r ih =>
        have e1 : (figT b).length = 1 := by cases b <;> decide +kernel
        rw [List.map_cons, List.map_cons, List.sum_cons, ih, e1, List.length_cons]
        omega
    have jz : ((U.map figT).map (·.length)).sum + (U.map figT).length * ("" : Str).length ≤ 16777216 := by
      rw [jl, show ("" : Str).length = 0 by decide +kernel]
      omega
    refine ⟨_, D, U.map figT, rfl, rfl, .inl (.inl (.inl e3)), jz, ?_⟩
    rw [jf]
    refine ⟨_, _, rfl, rfl, by rw [app_len, figS_len, figS_len, l1, sizeLine_eq]; omega, ?_⟩
    refine ⟨_, _, rfl, rfl, by rw [app_len, app_len, figS_len, figS_len, l1, l2, sizeLine_eq]; omega, ?_⟩
    exact q _ (s02.trans ‹Same H2 H4›)

theorem fig_get {l : List Bool} {i c : Nat} (h : (figS l).cps[i]? = some c) : ∃ b, l[i]? = some b ∧ c = figN b := by
  have h : (l.map figN).toArray[i]? = some c := h
  rw [List.getElem?_toArray, List.getElem?_map] at h
  obtain ⟨b, hb, rfl⟩ := Option.map_eq_some_iff.mp h
  exact ⟨b, hb, rfl⟩
theorem fig_is (b : Bool) : decide (V.str ⟨#[figN b]⟩ = V.str ("1" : Str)) = b := by
  cases b with
  | true => exact decide_eq_true (congrArg V.str (by decide +kernel))
  | false =>
    refine decide_eq_false fun h => ?_
    have h : (⟨#[figN false]⟩ : Str) = ("1" : Str) := by injection h
    exact absurd h (by decide +kernel)
theorem fig_in (b : Bool) : decide (figN b ∈ ("01" : Str).cps.toList) = true := by
  rw [show ("01" : Str).cps.toList = [48, 49] by decide +kernel]
  cases b <;> decide
theorem figs_app (a b : List Bool) : figS a ++ figS b = figS (a ++ b) := by
  apply str_ext
  rw [app_cps, figS_cps, figS_cps, figS_cps, List.map_append]
def spRead : Sp := fun vs H Q _ => ∃ (A T : List Bool), vs = [.str (textS A T)] ∧ 0 < T.length ∧ T.length ≤ 400 ∧ A.length ≤ 400 ∧ newW (plainF A T) H Q
theorem ok_widths_of_text (T : Tx K mg) : FnG P w K mg base CX0 3 T.a_widths_of_text T.d_widths_of_text ["text"] spRead := by
  have G_made_plain := ok_made_plain (P := P) (w := w) (base := base) T
  refine bodyG0 T.F_widths_of_text sc_widths_of_text (fun vs H Q E h => ?_) (fun cdv A outer s H vs Q E gd hr h => ?_)
  · obtain ⟨B, U, rfl, _⟩ := h; rfl
  · obtain ⟨B, U, rfl, u0, u1, b1, q⟩ := h
    refine ⟨_, (pss_cons (ps_if (PW.pt (pw_or (pt_not (pt_val (pe_callB call_isD (by rfl) T.z_isinstance (by decide +kernel) (pa_cons (pv 0) (pa_cons (pe_bltn (v := .ty "str") (by rfl) T.z_str (by decide +kernel) rfl) pa_nil))))) (pw_or1 (pt_cmpR op_ne (pe_slice sl_str (pv 0) (po_some (pe_un un_neg pe_int)) po_none) pe_str (nomark _))))) (pss_one ps_never) pss_nil)
      (pss_cons (ps_asg (pe_partition (pe_slice sl_str (pv 0) po_none (po_some (pe_un un_neg pe_int))) pe_str) (pg_tup (by rfl) (pgs_cons (pg_name (i := 1) sc_widths_of_text.nd rfl (Or.inl rfl)) (pgs_cons (pg_name (i := 2) sc_widths_of_text.nd rfl (Or.inl rfl)) (pgs_cons (pg_name (i := 3) sc_widths_of_text.nd rfl (Or.inl rfl)) pgs_nil)))))
      (pss_cons (ps_if (PW.pt (pw_or (pt_cmpR op_eq (pv 3) pe_str (nomark _)) (pw_or1 (pt_not (pt_val (pe_callB (cr_allK (K := K) rfl rfl) (by rfl) T.z_all (by decide +kernel) (pa_cons (pe_lc (own := [("figure", 4)]) (g := gName 4) (tt := tYes) rfl sc_widths_of_text.nd (pi_str (pe_op op_add_str (pv 1) (pv 3))) (blkOk_by (N := ["text", "ahead", "_", "turn", "figure"]) (sc := defScope s_widths_of_text) (by decide +kernel)) (fun _ _ _ _ _ => (pg_name (i := 4) sc_widths_of_text.nd rfl (Or.inl rfl))) (fun _ _ _ _ _ => pts_nil) (fun _ _ _ _ _ => (pe_cmpR op_in_sign (pv 4) pe_str (by rfl)))) pa_nil))))))) (pss_one ps_never) pss_nil)
      (pss_one (ps_ret (pe_g G_made_plain gd (hr.mono (by decide)) (by rfl) T.g_made_plain T.F_made_plain.kp T.b_made_plain .nil pass0 (pa_cons (pe_lc (own := [("figure", 4)]) (g := gName 4) (tt := tYes) rfl sc_widths_of_text.nd (pi_str (pv 1)) (blkOk_by (N := ["text", "ahead", "_", "turn", "figure"]) (sc := defScope s_widths_of_text) (by decide +kernel)) (fun _ _ _ _ _ => (pg_name (i := 4) sc_widths_of_text.nd rfl (Or.inl rfl))) (fun _ _ _ _ _ => pts_nil) (fun _ _ _ _ _ => (pe_cmpR op_eq (pv 4) pe_str (nomark _)))) (pa_cons (pe_lc (own := [("figure", 4)]) (g := gName 4) (tt := tYes) rfl sc_widths_of_text.nd (pi_str (pv 3)) (blkOk_by (N := ["text", "ahead", "_", "turn", "figure"]) (sc := defScope s_widths_of_text) (by decide +kernel)) (fun _ _ _ _ _ => (pg_name (i := 4) sc_widths_of_text.nd rfl (Or.inl rfl))) (fun _ _ _ _ _ => pts_nil) (fun _ _ _ _ _ => (pe_cmpR op_eq (pv 4) pe_str (nomark _)))) pa_nil)))))))), ?_⟩
    have ln := textS_len B U
    have zl : (textS B U).length ≤ sizeLine := by rw [ln, sizeLine_eq]; omega
    refine ⟨_, rfl, _, _, _, _, rfl, .str _, kit_str _, _, rfl, iteF ?_⟩
    refine ⟨_, rfl, _, rfl, _, rfl, _, rfl, zl, ?_⟩
    rw [text_last]
    refine ⟨rfl, _, rfl, ?_⟩
    rw [show decide (V.str ((")" : String) : Str) = V.str ((")" : String) : Str)) = true from decide_eq_true rfl]
    refine iteF ⟨_, rfl, _, rfl, _, rfl, _, rfl, zl, ?_⟩
    rw [text_front]
    have l1 : ("(" : Str).length = 1 := by decide +kernel
    refine ⟨⟨_, rfl⟩, _, _, rfl, rfl, by decide +kernel, by rw [app_len, app_len, figS_len, figS_len, l1, sizeLine_eq]; omega, fun p hp => ?_⟩
    rw [text_parts]
    have f1 := same_new' (o := .tup [.str (figS B), .str ("(" : Str), .str (figS U)]) hp
    have hp1 : (upd H p (.tup [.str (figS B), .str ("(" : Str), .str (figS U)])) p = some (.tup [.str (figS B), .str ("(" : Str), .str (figS U)]) := upd_same
    generalize (upd H p (.tup [.str (figS B), .str ("(" : Str), .str (figS U)])) = H1 at f1 hp1
    refine ⟨p, _, rfl, .inl (.inl hp1), rfl, _, _, rfl, _, _, rfl, _, _, rfl, rfl, ?_⟩
    refine ⟨_, rfl, rfl, _, rfl, ?_⟩
    rw [show decide (V.str (figS U) = V.str (("" : String) : Str)) = false from decide_eq_false fun h => by
      have h : figS U = ("" : Str) := by injection h
      have h2 := congrArg Str.length h
      rw [figS_len, show ("" : Str).length = 0 by decide +kernel] at h2
      omega]
    refine iteF ⟨_, rfl, _, rfl, _, _, rfl, rfl, by rw [figS_len, figS_len, sizeLine_eq]; omega, _, rfl, ?_⟩
    rw [figs_app]
    refine fun D hD => ?_
    refine lc_it walk_str (fun i H2 => Same H1 H2 ∧ H2 D = some (.lst (blV (List.replicate i true)))) ⟨same_new' hD, upd_same⟩ (fun _ _ _ _ => trivial) ?_ ?_
    · rintro i y H2 H3 hi ⟨s2, e2⟩ ⟨rfl, ch, hch, rfl⟩
      obtain ⟨bb, hb2, rfl⟩ := fig_get hch
      have il : i < (B ++ U).length := (List.getElem?_eq_some_iff.mp hb2).1
      rw [List.length_append] at il
      refine ⟨rfl, yes_if ⟨_, rfl, _, _, rfl, rfl, ?_⟩⟩
      rw [fig_in bb]
      refine ⟨_, e2, by rw [List.length_map, List.length_replicate]; exact small1000 (by omega), fun g o hg => ?_, ?_⟩
      · rw [upd_ne (ne_of_none hg hD)]
        exact s2 g o hg
      · rw [upd_same, blV_snoc, ← List.replicate_succ']
    rintro H2 ⟨s2, e2⟩
    refine ⟨D, _, rfl, .inl (.inl e2), ?_⟩
    rw [show ∀ n : Nat, (List.replicate n true).all id = true from fun n => by rw [List.all_eq_true]; intro x hx; rw [List.eq_of_mem_replicate hx]; rfl]
    refine ⟨_, rfl, iteF ?_⟩
    have s02 := f1.trans s2
    clear e2 s2 hD
    clear D
    generalize H2 = H5 at s02
    refine ⟨_, rfl, _, rfl, ?_⟩
    refine fun D6 hD6 => ?_
    refine lc_it walk_str (fun i H6 => Same H5 H6 ∧ H6 D6 = some (.lst (blV (B.take i)))) ⟨same_new' hD6, upd_same⟩ (fun _ _ _ _ => trivial) ?_ ?_
    · rintro i y H6 H3 hi ⟨s2, e2⟩ ⟨rfl, ch, hch, rfl⟩
      obtain ⟨bb, hb2, rfl⟩ := fig_get hch
      have il : i < B.length := (List.getElem?_eq_some_iff.mp hb2).1
      refine ⟨rfl, yes_if ⟨_, rfl, rfl, ?_⟩⟩
      rw [fig_is bb]
      refine ⟨_, e2, by rw [List.length_map, List.length_take]; exact small1000 (by omega), fun g o hg => ?_, ?_⟩
      · rw [upd_ne (ne_of_none hg hD6)]
        exact s2 g o hg
      · rw [upd_same, List.take_add_one, hb2, blV_snoc]
        rfl
    rintro H6 ⟨s6, e6⟩
    rw [show (figS B).cps.size = B.length from figS_len B, List.take_length] at e6
    refine ⟨_, rfl, _, rfl, ?_⟩
    refine fun D7 hD7 => ?_
    refine lc_it walk_str (fun i H7 => Same H6 H7 ∧ H7 D7 = some (.lst (blV (U.take i)))) ⟨same_new' hD7, upd_same⟩ (fun _ _ _ _ => trivial) ?_ ?_
    · rintro i y H7 H3 hi ⟨s2, e2⟩ ⟨rfl, ch, hch, rfl⟩
      obtain ⟨bb, hb2, rfl⟩ := fig_get hch
      have il : i < U.length := (List.getElem?_eq_some_iff.mp hb2).1
      refine ⟨rfl, yes_if ⟨_, rfl, rfl, ?_⟩⟩
      rw [fig_is bb]
      refine ⟨_, e2, by rw [List.length_map, List.length_take]; exact small1000 (by omega), fun g o hg => ?_, ?_⟩
      · rw [upd_ne (ne_of_none hg hD7)]
        exact s2 g o hg
      · rw [upd_same, List.take_add_one, hb2, blV_snoc]
        rfl
    rintro H7 ⟨s7, e7⟩
    rw [show (figS U).cps.size = U.length from figS_len U, List.take_length] at e7
    exact ⟨D6, D7, B, U, rfl, s7 _ _ e6, e7, u0, by omega, by omega, fun a b c H8 e8 na nb nc ne => q a b c H8 ((s02.trans (s6.trans s7)).trans e8) ((s02.trans (s6.trans s7)).free na) ((s02.trans (s6.trans s7)).free nb) ((s02.trans (s6.trans s7)).free nc) ne⟩


end

end K42

set_option Elab.async false
set_option linter.all false
set_option maxRecDepth 100000
set_option maxHeartbeats 4000000
namespace K42
open PySem PySem.Spec PyProof.Rows L2 Hw
section
variable {P : Program} {w : World} {K : PySem.W.Frag} {mg : Str → Option Value} {base : Heap}

def bitsI (l : List Bool) : List Int := l.map fun b => if b = true then 1 else 0
theorem bitsI_sum : ∀ l : List Bool, (bitsI l).sum = ((l.count true : Nat) : Int)
  | [] => rfl
  | b :: r => by
    have ih := bitsI_sum r
    show (if b = true then (1 : Int) else 0) + (bitsI r).sum = _
    rw [ih, List.count_cons]
    cases b <;> simp <;> omega
theorem bitsI_step {l : List Bool} {i : Nat} (h : i < l.length) : (bitsI (l.take i)).map V.int ++ [V.int (if l.getD i false = true then 1 else 0)] = (bitsI (l.take (i + 1))).map V.int := by
  rw [List.take_add_one, List.getElem?_eq_getElem h, getD_lt h]
  unfold bitsI
  rw [List.map_append, List.map_append]
  rfl
def spLBelow : Sp := fun vs H Q _ => ∃ (x : V) (A T : List Bool) (n : Nat), vs = [x, .int n] ∧ WdOk H x A T ∧ n < 2 ^ 200 ∧ ∀ H', Same H H' → Q (.int (belowF A T n : Nat)) H'
theorem ok_law_below (T : Tx K mg) : FnG P w K mg base CX0 1 T.a_law_below T.d_law_below ["_law_told", "_law_far"] spLBelow := by
  refine bodyG0 T.F_law_below sc_law_below (fun vs H Q E h => ?_) (fun cdv A outer s H vs Q E gd hr h => ?_)
  · obtain ⟨x, B, U, n, rfl, _⟩ := h; rfl
  · obtain ⟨x, B, U, n, rfl, ok, big, q⟩ := h
    refine ⟨_, (pss_cons (ps_asg (pv 0) (pg_tup (by rfl) (pgs_cons (pg_name (i := 2) sc_law_below.nd rfl (Or.inl rfl)) (pgs_cons (pg_name (i := 3) sc_law_below.nd rfl (Or.inl rfl)) pgs_nil))))
      (pss_cons (ps_set (i := 4) sc_law_below.nd rfl (Or.inl rfl) (pe_callB (cr_sumK (K := K) rfl rfl) (by rfl) T.z_sum (by decide +kernel) (pa_cons (pe_lc (own := [("_law_item_here", 6)]) (g := gName 6) (tt := tYes) rfl sc_law_below.nd (pi_list (pe_slice (sl_listK (K := K) rfl) (pv 2) po_none (po_some (pv 1)))) (blkOk_by (N := ["_law_told", "_law_far", "_law_ahead", "_law_turn", "_law_found", "_law_rest", "_law_item_here"]) (sc := defScope s_law_below) (by decide +kernel)) (fun _ _ _ _ _ => (pg_name (i := 6) sc_law_below.nd rfl (Or.inl rfl))) (fun _ _ _ _ _ => pts_nil) (fun _ _ _ _ _ => (pe_callTy call_int1 (by rfl) T.z_int (by decide +kernel) (pa_cons (pv 6) pa_nil)))) pa_nil)))
      (pss_cons (ps_if (pt_cmpR op_gt (pv 1) (pe_callB (call_lenK (K := K) rfl) (by rfl) T.z_len (by decide +kernel) (pa_cons (pv 2) pa_nil)) (nomark _)) (pss_cons (ps_set (i := 5) sc_law_below.nd rfl (Or.inl rfl) (pe_op op_mod (pe_callTy call_int1 (by rfl) T.z_int (by decide +kernel) (pa_cons (pe_op op_sub (pv 1) (pe_callB (call_lenK (K := K) rfl) (by rfl) T.z_len (by decide +kernel) (pa_cons (pv 2) pa_nil))) pa_nil)) (pe_callB (call_lenK (K := K) rfl) (by rfl) T.z_len (by decide +kernel) (pa_cons (pv 3) pa_nil))))
      (pss_one (ps_set (i := 4) sc_law_below.nd rfl (Or.inl rfl) (pe_op op_add (pe_op op_add (pv 4) (pe_op op_mulX (pe_op op_fdivW (pe_op op_sub (pv 1) (pe_callB (call_lenK (K := K) rfl) (by rfl) T.z_len (by decide +kernel) (pa_cons (pv 2) pa_nil))) (pe_callB (call_lenK (K := K) rfl) (by rfl) T.z_len (by decide +kernel) (pa_cons (pv 3) pa_nil))) (pe_callB (cr_sumK (K := K) rfl rfl) (by rfl) T.z_sum (by decide +kernel) (pa_cons (pe_lc (own := [("_law_item_here", 6)]) (g := gName 6) (tt := tYes) rfl sc_law_below.nd (pi_list (pv 3)) (blkOk_by (N := ["_law_told", "_law_far", "_law_ahead", "_law_turn", "_law_found", "_law_rest", "_law_item_here"]) (sc := defScope s_law_below) (by decide +kernel)) (fun _ _ _ _ _ => (pg_name (i := 6) sc_law_below.nd rfl (Or.inl rfl))) (fun _ _ _ _ _ => pts_nil) (fun _ _ _ _ _ => (pe_callTy call_int1 (by rfl) T.z_int (by decide +kernel) (pa_cons (pv 6) pa_nil)))) pa_nil)))) (pe_callB (cr_sumK (K := K) rfl rfl) (by rfl) T.z_sum (by decide +kernel) (pa_cons (pe_lc (own := [("_law_item_here", 6)]) (g := gName 6) (tt := tYes) rfl sc_law_below.nd (pi_list (pe_slice (sl_listK (K := K) rfl) (pv 3) po_none (po_some (pv 5)))) (blkOk_by (N := ["_law_told", "_law_far", "_law_ahead", "_law_turn", "_law_found", "_law_rest", "_law_item_here"]) (sc := defScope s_law_below) (by decide +kernel)) (fun _ _ _ _ _ => (pg_name (i := 6) sc_law_below.nd rfl (Or.inl rfl))) (fun _ _ _ _ _ => pts_nil) (fun _ _ _ _ _ => (pe_callTy call_int1 (by rfl) T.z_int (by decide +kernel) (pa_cons (pv 6) pa_nil)))) pa_nil)))))) pss_nil)
      (pss_one (ps_ret (pv 4)))))), ?_⟩
    have u0 := ok.pos
    have u1 := ok.t
    have b1 := ok.a
    obtain ⟨a, b, c, rfl, ha, hb, hc⟩ := ok.dt.wd
    have lb : (blV B).length = B.length := List.length_map ..
    have lu : (blV U).length = U.length := List.length_map ..
    refine ⟨_, rfl, a, _, rfl, .inl (.inl ha), rfl, _, _, rfl, _, _, rfl, rfl, ?_⟩
    refine ⟨_, rfl, _, rfl, _, rfl, b, _, rfl, .inl (.inl hb), fun p hp => ?_⟩
    rw [cut_to]
    have f1 := same_new' (o := .lst (blV (B.take n))) hp
    have hp1 : (upd H p (.lst (blV (B.take n)))) p = some (.lst (blV (B.take n))) := upd_same
    generalize (upd H p (.lst (blV (B.take n)))) = H1 at f1 hp1
    have tl : (B.take n).length ≤ 1000 := by rw [List.length_take]; omega
    refine ⟨p, rfl, ⟨_, .inl (.inl hp1)⟩, ?_⟩
    refine fun D hD => ?_
    refine lc_list (K := K) (a := p) (xs := blV (B.take n)) (fun i Hz => Same H1 Hz ∧ Hz D = some (.lst ((bitsI ((B.take n).take i)).map V.int))) ⟨same_new' hD, upd_same⟩ (fun i Hz _ e => e.1.seq (.inl (.inl (hp1)))) ?_ ?_
    · rintro i y Hz hi ⟨s2, e2⟩
      obtain ⟨il, rfl⟩ := bl_get hi
      refine ⟨rfl, yes_if ⟨_, rfl, .inr ⟨_, rfl, ?_⟩⟩⟩
      refine ⟨_, e2, by rw [List.length_map]; unfold bitsI; rw [List.length_map, List.length_take, sizeLine_eq]; omega, fun g o hg => ?_, ?_⟩
      · rw [upd_ne (ne_of_none hg hD)]
        exact s2 g o hg
      · rw [upd_same, bitsI_step il]
    rintro H2 ⟨sD, eD⟩
    rw [show (blV (B.take n)).length = (B.take n).length from List.length_map .., List.take_length] at eD
    refine ⟨D, bitsI (B.take n), rfl, .inl (.inl eD), ?_⟩
    rw [bitsI_sum]
    dsimp only [gName]
    have s2 := f1.trans sD
    have hb2 := s2 _ _ hb
    have hc2 := s2 _ _ hc
    refine ⟨_, rfl, _, rfl, b, _, rfl, .inl (.inl (.inl hb2)), _, _, rfl, rfl, _, rfl, ?_⟩
    rw [lb]
    by_cases hn : (n : Int) > (B.length : Nat)
    · have ed : decide (((B.length : Nat) : Int) < (n : Int)) = true := decide_eq_true hn
      rw [ed]
      have hn : B.length < n := by omega
      rw [List.take_of_length_le (show B.length ≤ n by omega)]
      have e3 : (n : Int) - ((blV B).length : Nat) = ((n - B.length : Nat) : Int) := by rw [lb, Int.ofNat_sub (by omega)]
      have e4 : ((n : Int) - ((blV B).length : Nat)) % ((blV U).length : Int) = (((n - B.length) % U.length : Nat) : Int) := by rw [e3, lu, Int.natCast_emod]
      have e5 : ((n : Int) - ((blV B).length : Nat)) / ((blV U).length : Int) = (((n - B.length) / U.length : Nat) : Int) := by rw [e3, lu, Int.natCast_ediv]
      refine iteT ⟨_, rfl, _, rfl, b, _, rfl, .inl (.inl (.inl hb2)), _, _, rfl, rfl, .inl ⟨_, rfl, _, rfl, c, _, rfl, .inl (.inl (.inl hc2)), _, _, rfl, rfl, (by show (0 : Int) < ((blV U).length : Nat); omega), ?_⟩⟩
      dsimp only [gName]
      rw [e4]
      refine ⟨_, rfl, _, rfl, _, rfl, b, _, rfl, .inl (.inl (.inl hb2)), _, _, rfl, rfl, _, rfl, c, _, rfl, .inl (.inl (.inl hc2)), _, _, rfl, rfl, (by exact wide_div (b := 20) (by omega) (by omega) (by decide) (by decide)), ?_⟩
      dsimp only
      rw [e5]
      refine ⟨_, rfl, c, rfl, ⟨_, .inl (.inl hc2)⟩, ?_⟩
      refine fun D3 hD3 => ?_
      refine lc_list (K := K) (a := c) (xs := blV (U)) (fun i Hz => Same H2 Hz ∧ Hz D3 = some (.lst ((bitsI ((U).take i)).map V.int))) ⟨same_new' hD3, upd_same⟩ (fun i Hz _ e => e.1.seq (.inl (.inl (hc2)))) ?_ ?_
      · rintro i y Hz hi ⟨s2, e2⟩
        obtain ⟨il, rfl⟩ := bl_get hi
        refine ⟨rfl, yes_if ⟨_, rfl, .inr ⟨_, rfl, ?_⟩⟩⟩
        refine ⟨_, e2, by rw [List.length_map]; unfold bitsI; rw [List.length_map, List.length_take, sizeLine_eq]; omega, fun g o hg => ?_, ?_⟩
        · rw [upd_ne (ne_of_none hg hD3)]
          exact s2 g o hg
        · rw [upd_same, bitsI_step il]
      rintro H3 ⟨sD3, eD3⟩
      rw [show (blV (U)).length = (U).length from List.length_map .., List.take_length] at eD3
      refine ⟨D3, bitsI (U), rfl, .inl (.inl eD3), ?_⟩
      rw [bitsI_sum]
      have ml : (n - B.length) / U.length < 2 ^ 200 := Nat.lt_of_le_of_lt (Nat.div_le_self _ _) (by omega)
      have cl := List.count_le_length (a := true) (l := U)
      refine ⟨_, _, rfl, rfl, (by exact mulx_ok (a := 200) (b := 20) (by rw [Int.natAbs_natCast]; exact ml) (by rw [Int.natAbs_natCast]; omega) (by decide)), _, _, rfl, rfl, ?_⟩
      have hc3 := sD3 _ _ hc2
      refine ⟨_, rfl, _, rfl, _, rfl, c, _, rfl, .inl (.inl hc3), fun p4 hp4 => ?_⟩
      rw [cut_to]
      have f4 := same_new' (o := .lst (blV (U.take ((n - B.length) % U.length)))) hp4
      have hp5 : (upd H3 p4 (.lst (blV (U.take ((n - B.length) % U.length))))) p4 = some (.lst (blV (U.take ((n - B.length) % U.length)))) := upd_same
      generalize (upd H3 p4 (.lst (blV (U.take ((n - B.length) % U.length))))) = H4 at f4 hp5
      have tl2 : (U.take ((n - B.length) % U.length)).length ≤ 1000 := by rw [List.length_take]; omega
      refine ⟨p4, rfl, ⟨_, .inl (.inl hp5)⟩, ?_⟩
      refine fun D5 hD5 => ?_
      refine lc_list (K := K) (a := p4) (xs := blV (U.take ((n - B.length) % U.length))) (fun i Hz => Same H4 Hz ∧ Hz D5 = some (.lst ((bitsI ((U.take ((n - B.length) % U.length)).take i)).map V.int))) ⟨same_new' hD5, upd_same⟩ (fun i Hz _ e => e.1.seq (.inl (.inl (hp5)))) ?_ ?_
      · rintro i y Hz hi ⟨s2, e2⟩
        obtain ⟨il, rfl⟩ := bl_get hi
        refine ⟨rfl, yes_if ⟨_, rfl, .inr ⟨_, rfl, ?_⟩⟩⟩
        refine ⟨_, e2, by rw [List.length_map]; unfold bitsI; rw [List.length_map, List.length_take, sizeLine_eq]; omega, fun g o hg => ?_, ?_⟩
        · rw [upd_ne (ne_of_none hg hD5)]
          exact s2 g o hg
        · rw [upd_same, bitsI_step il]
      rintro H5 ⟨sD5, eD5⟩
      rw [show (blV (U.take ((n - B.length) % U.length))).length = (U.take ((n - B.length) % U.length)).length from List.length_map .., List.take_length] at eD5
      refine ⟨D5, bitsI (U.take ((n - B.length) % U.length)), rfl, .inl (.inl eD5), ?_⟩
      rw [bitsI_sum]
      refine ⟨_, _, rfl, rfl, ?_⟩
      dsimp only [gName]
      refine ⟨_, rfl, ?_⟩
      have q := q H5 (s2.trans (sD3.trans (f4.trans sD5)))
      rw [below_at hn] at q
      have ee : ((B.count true : Nat) : Int) + (((n - B.length) / U.length : Nat) : Int) * ((U.count true : Nat) : Int) + (((U.take ((n - B.length) % U.length)).count true : Nat) : Int) = ((B.count true + (n - B.length) / U.length * U.count true + (U.take ((n - B.length) % U.length)).count true : Nat) : Int) := by
        rw [Int.natCast_add, Int.natCast_add, Int.natCast_mul]
      rw [← ee] at q
      exact q
    · have ed : decide (((B.length : Nat) : Int) < (n : Int)) = false := decide_eq_false hn
      rw [ed]
      have q := q H2 s2
      unfold belowF at q
      rw [if_pos (by omega)] at q
      exact iteF ⟨_, rfl, q⟩

end

end K42

set_option Elab.async false
set_option linter.all false
set_option maxRecDepth 100000
set_option maxHeartbeats 4000000
namespace K42
open PySem PySem.Spec PyProof.Rows L2 Hw
section
variable {P : Program} {w : World} {K : PySem.W.Frag} {mg : Str → Option Value} {base : Heap}

theorem veq (x : Str) : decide (V.str x = V.str x) = true := decide_eq_true rfl
theorem in_bls (l : List Bool) : inV (.bl true) (blV l) = l.any id := by
  unfold inV
  rw [List.any_map]
  congr 1
  funext b
  cases b <;> rfl
theorem flat_bls (l : List Bool) : (blV l).all flatV = true := by
  rw [List.all_map, List.all_eq_true]
  intro x _
  rfl
theorem nat38 {n : Nat} (h : n < 10 ^ 38) : Nice (.int (n : Int)) := Nice.int (by omega)
theorem nats_shaped (l : List Nat) : SeqAt.shaped (.list (natD l)) = true := by
  have h1 : ∀ l : List Nat, PyData.canLayAll0 (natD l) = true := by
    intro l
    induction l with
    | nil => rfl
    | cons x r ih => show (true && PyData.canLayAll0 (natD r)) = true; rw [ih]; rfl
  have h2 : ∀ l : List Nat, PyData.depthAll (natD l) = 0 := by
    intro l
    induction l with
    | nil => simp only [List.map_nil, PyData.depthAll]
    | cons x r ih =>
      show PyData.depthAll (PyData.int (x : Int) :: natD r) = 0
      simp only [PyData.depthAll, PyData.depth, ih]
      decide
  have h3 : PyData.canLay0 (.list (natD l)) = true := by simp only [PyData.canLay0]; exact h1 l
  have h4 : PyData.depth (.list (natD l)) ≤ 64 := by simp only [PyData.depth, h2]; omega
  show (PyData.canLay0 _ && decide (PyData.depth _ ≤ 64)) = true
  rw [h3, decide_eq_true h4]
  rfl
theorem wd_off {a : Addr} {t m : Int} {H : Hp} {x : V} {A T : List Bool} (g : Gn a t m H) (h : Dt H x (wdD A T)) : Dt (off a H) x (wdD A T) := by
  obtain ⟨c, p, q, rfl, hc, hp, hq⟩ := h.wd
  obtain ⟨s, k, e, _⟩ := g
  have nb : ∀ (l : List Bool), (blV l) ≠ [.int s, .int t, .int k] := fun l z => by
    cases l with
    | nil => cases z
    | cons b r => injection z with z1 z2; cases z1
  have nc : c ≠ a := fun z => by rw [z, e] at hc; cases hc
  have np : p ≠ a := fun z => by
    rw [z, e] at hp
    injection hp with hp
    injection hp with hp
    exact nb _ hp.symm
  have nq : q ≠ a := fun z => by
    rw [z, e] at hq
    injection hq with hq
    injection hq with hq
    exact nb _ hq.symm
  exact .wd_of (off_of nc hc) (off_of np hp) (off_of nq hq)
theorem wd_shows {A T : List Bool} (h : A.length ≤ 1000) (h' : T.length ≤ 1000) : Shows (wdD A T) := (wd_nice h h').shows
theorem ten38 : (2 : Nat) ^ 110 < 10 ^ 38 := by decide
theorem first_nice {f : Nat → Bool} {lo n : Nat} (h : lo + n < 2 ^ 110) : Shows (optD (firstW f lo n)) := (opt_nice fun w e => by have := firstW_lt e; have := ten38; omega).shows
theorem great_ev {K : PySem.W.Frag} {σ : L2.St} {H : Hp} {Q : VK} {ka kb kc D : Addr} {B U : List Bool} (h1 : σ[1]? = some (some (.ref ka))) (h5 : σ[5]? = some (some (.ref D))) (sq : SqT K H ka [.ref kb, .ref kc]) (st : SqL K H kc (blV U))
    (hD : H D = some (.lst (natV (placesW B)))) (q : ∀ H', Same H H' → Q (optV (greatF B U)) H') :
    tIf (tAnd (tTest (tOp (rIn K true) (tC (.bl true)) (tOp (rIxT K) (tVar 1) (tC (.int 1))))) (tTest (tOp rNeT (tVar 5) (tLst tNil)))) (tOp (rIxL K) (tVar 5) (tUn (rU fun i => .int (-i)) (tC (.int 1)))) (tC .non) σ H Q := by
  refine ⟨_, h1, ka, _, 1, _, rfl, rfl, sq, rfl, kc, _, rfl, .inl st, rfl, flat_bls U, _, rfl, ?_⟩
  unfold greatF at q
  show if (!inV (.bl true) (blV U)) = true then _ else _
  rw [in_bls]
  cases hany : U.any id with
  | true =>
    rw [hany, if_pos rfl] at q
    exact iteF (iteF (q H (Same.refl H)))
  | false =>
    rw [hany, if_neg Bool.false_ne_true] at q
    refine iteT ⟨_, h5, Nat.zero_le _, fun e he => ?_⟩
    have e1 := same_new' (o := .lst []) he
    refine ⟨_, .list [], Dt.nats (e1 _ _ hD), .lst upd_same .nil, nats_shaped _, shaped_nil, _, rfl, ?_⟩
    rw [eqv_nil]
    have hD := e1 _ _ hD
    generalize (upd H e (.lst [])) = H1 at e1 hD
    revert q hD
    generalize placesW B = l
    intro q hD
    cases l with
    | nil => exact iteF (q H1 e1)
    | cons x r =>
      refine iteT ⟨_, h5, _, rfl, _, _, _, _, rfl, rfl, .inl (.inl hD), ?_, q H1 e1⟩
      obtain ⟨y, hy⟩ : ∃ y, (x :: r).getLast? = some y := by
        cases z : (x :: r).getLast? with
        | none => rw [List.getLast?_eq_none_iff] at z; cases z
        | some y => exact ⟨y, rfl⟩
      have ln : 0 < (natV (x :: r)).length := by rw [natV_len, List.length_cons]; omega
      show atI (natV (x :: r)) (-1) = _
      rw [atI_neg ln, natV_last, hy]
      rfl
def spRight : Sp := fun vs H Q _ => ∃ (a : Addr) (t m : Int), vs = [.ref a] ∧ Gn a t m H ∧ m ≤ 10000 ∧ ∀ H' : Hp, SameX a H H' → Q (.bl true) H'
set_option maxHeartbeats 8000000 in
theorem ok_law_right (T : Tx K mg) : FnG P w K mg base CX0 6 T.a_law_right T.d_law_right ["_law_generator_here"] spRight := by
  have G_law_random := ok_rnd (P := P) (w := w) (base := base) T
  have G_law_set := ok_law_set (P := P) (w := w) (base := base) T
  have G_law_plain := ok_law_plain (P := P) (w := w) (base := base) T
  have G_law_item := ok_law_item (P := P) (w := w) (base := base) T
  have G_law_first := ok_law_first (P := P) (w := w) (base := base) T
  have G_law_below := ok_law_below (P := P) (w := w) (base := base) T
  have G_law_text := ok_law_text (P := P) (w := w) (base := base) T
  have G_has_width := ok_has_width (P := P) (w := w) (base := base) T
  have G_least_width := ok_least_width (P := P) (w := w) (base := base) T
  have G_next_width := ok_next_width (P := P) (w := w) (base := base) T
  have G_greatest_width := ok_greatest_width (P := P) (w := w) (base := base) T
  have G_how_many_below := ok_how_many_below (P := P) (w := w) (base := base) T
  have G_width_numbered := ok_width_numbered (P := P) (w := w) (base := base) T
  have G_text_of_widths := ok_text_of_widths (P := P) (w := w) (base := base) T
  have G_widths_of_text := ok_widths_of_text (P := P) (w := w) (base := base) T
  refine bodyG0 T.F_law_right sc_law_right (fun vs H Q E h => ?_) (fun cdv A outer s H vs Q E gd hr h => ?_)
  · obtain ⟨a, t, m, rfl, _⟩ := h; rfl
  · obtain ⟨a, t, m, rfl, g0, hm, q⟩ := h
    refine ⟨_, (pss_cons (ps_set (i := 1) sc_law_right.nd rfl (Or.inr rfl) (pe_g G_law_set gd (hr.mono (by decide)) (by rfl) T.g_law_set T.F_law_set.kp T.b_law_set .nil pass0 (pa_cons (pv 0) (pa_cons pe_int pa_nil))))
      (pss_cons (ps_par (i := 2) (j := 3) rfl sc_law_right.nd rfl rfl (by decide) rfl rfl (pa_cons (pe_callB (call_reprT gd hr.units) (by rfl) T.z_repr (by decide +kernel) (pa_cons (pv 1) pa_nil)) (pa_cons (pe_op op_add (pe_callB (call_lenK (K := K) rfl) (by rfl) T.z_len (by decide +kernel) (pa_cons (pe_ix (ix_tupK (K := K) rfl) (pv 1) pe_int (fun _ _ => rfl)) pa_nil)) (pe_callB (call_lenK (K := K) rfl) (by rfl) T.z_len (by decide +kernel) (pa_cons (pe_ix (ix_tupK (K := K) rfl) (pv 1) pe_int (fun _ _ => rfl)) pa_nil))) pa_nil)) (by rfl))
      (pss_cons (ps_if (pt_cmpR op_ne (pe_callB (call_reprT gd hr.units) (by rfl) T.z_repr (by decide +kernel) (pa_cons (pe_gk G_least_width gd (hr.mono (by decide)) (by rfl) T.g_least_width T.F_least_width.kp T.w_least_width_widths pass0 (pk_cons (pv 1) pk_nil)) pa_nil)) (pe_callB (call_reprT gd hr.units) (by rfl) T.z_repr (by decide +kernel) (pa_cons (pe_g G_law_first gd (hr.mono (by decide)) (by rfl) T.g_law_first T.F_law_first.kp T.b_law_first .nil pass0 (pa_cons (pv 1) (pa_cons pe_int (pa_cons (pv 3) pa_nil)))) pa_nil)) (nomark _)) (pss_one (ps_ret pe_bl)) pss_nil)
      (pss_cons (ps_setLc (i := 5) (own := [("_law_at", 4)]) (g := gName 4) rfl sc_law_right.nd rfl rfl (sw_true rfl rfl rfl (by decide +kernel)) (pi_range1 (by rfl) T.z_range (pa_cons (pe_callB (call_lenK (K := K) rfl) (by rfl) T.z_len (by decide +kernel) (pa_cons (pe_ix (ix_tupK (K := K) rfl) (pv 1) pe_int (fun _ _ => rfl)) pa_nil)) pa_nil)) (blkOk_by (N := ["_law_generator_here", "_law_told", "_law_kept", "_law_far", "_law_at", "_law_places", "_law_step", "_law_due", "_law_found"]) (sc := defScope s_law_right) (by decide +kernel)) (fun _ _ _ _ _ => (pg_name (i := 4) sc_law_right.nd rfl (Or.inl rfl))) (fun _ _ _ _ _ => (pts_one (pt_val (pe_ix (ix_listK (K := K) rfl) (pe_ix (ix_tupK (K := K) rfl) (pv 1) pe_int (fun _ _ => rfl)) (pv 4) (fun _ _ => rfl))))) (fun _ _ _ _ _ => (pv 4)))
      (pss_cons (ps_if (pt_cmpR op_ne (pe_callB (call_reprT gd hr.units) (by rfl) T.z_repr (by decide +kernel) (pa_cons (pe_gk G_greatest_width gd (hr.mono (by decide)) (by rfl) T.g_greatest_width T.F_greatest_width.kp T.w_greatest_width_widths pass0 (pk_cons (pv 1) pk_nil)) pa_nil)) (pe_callB (call_reprT gd hr.units) (by rfl) T.z_repr (by decide +kernel) (pa_cons (pe_ifExp (PW.pt (pw_and (pt_cmpR op_notIn_seq pe_bl (pe_ix (ix_tupK (K := K) rfl) (pv 1) pe_int (fun _ _ => rfl)) (by rfl)) (pw_and1 (pt_cmpR (op_neT hr.units) (pv 5) (pe_lst pa_nil) (nomark _))))) (pe_ix (ix_listK (K := K) rfl) (pv 5) (pe_un un_neg pe_int) (fun _ _ => rfl)) pe_non) pa_nil)) (nomark _)) (pss_one (ps_ret pe_bl)) pss_nil)
      (pss_cons (ps_for PassesOwn.never rfl (pi_range1 (by rfl) T.z_range (pa_cons pe_int pa_nil)) (pg_name (i := 6) sc_law_right.nd rfl (Or.inl rfl)) (pss_cons (ps_set (i := 4) sc_law_right.nd rfl (Or.inl rfl) (pe_g G_law_random gd (hr.mono (by decide)) (by rfl) T.g_law_random T.F_law_random.kp T.b_law_random .nil pass0 (pa_cons (pv 0) (pa_cons (pe_ix (ix_listK (K := K) rfl) (pe_lst (pa_cons pe_int (pa_cons (pe_op op_powW pe_int pe_int) pa_nil))) (pe_g G_law_random gd (hr.mono (by decide)) (by rfl) T.g_law_random T.F_law_random.kp T.b_law_random .nil pass0 (pa_cons (pv 0) (pa_cons pe_int pa_nil))) (fun _ _ => rfl)) pa_nil))))
      (pss_cons (ps_set (i := 7) sc_law_right.nd rfl (Or.inl rfl) (pe_g G_law_first gd (hr.mono (by decide)) (by rfl) T.g_law_first T.F_law_first.kp T.b_law_first .nil pass0 (pa_cons (pv 1) (pa_cons (pe_op op_add (pv 4) pe_int) (pa_cons (pe_op op_add (pe_callB (call_max2 rfl) (by rfl) T.z_max (by decide +kernel) (pa_cons (pe_op op_add (pv 4) pe_int) (pa_cons (pe_callB (call_lenK (K := K) rfl) (by rfl) T.z_len (by decide +kernel) (pa_cons (pe_ix (ix_tupK (K := K) rfl) (pv 1) pe_int (fun _ _ => rfl)) pa_nil)) pa_nil))) (pe_callB (call_lenK (K := K) rfl) (by rfl) T.z_len (by decide +kernel) (pa_cons (pe_ix (ix_tupK (K := K) rfl) (pv 1) pe_int (fun _ _ => rfl)) pa_nil))) pa_nil)))))
      (pss_cons (ps_if (PW.pt (pw_or (pt_cmpR op_ne (pe_callB (call_reprT gd hr.units) (by rfl) T.z_repr (by decide +kernel) (pa_cons (pe_gk G_next_width gd (hr.mono (by decide)) (by rfl) T.g_next_width T.F_next_width.kp T.w_next_width_width_widths pass0 (pk_cons (pv 4) (pk_cons (pv 1) pk_nil))) pa_nil)) (pe_callB (call_reprT gd hr.units) (by rfl) T.z_repr (by decide +kernel) (pa_cons (pv 7) pa_nil)) (nomark _)) (pw_or1 (pt_cmpR op_ne (pe_callB (call_reprT gd hr.units) (by rfl) T.z_repr (by decide +kernel) (pa_cons (pe_gk G_how_many_below gd (hr.mono (by decide)) (by rfl) T.g_how_many_below T.F_how_many_below.kp T.w_how_many_below_width_widths pass0 (pk_cons (pv 4) (pk_cons (pv 1) pk_nil))) pa_nil)) (pe_callB (call_reprT gd hr.units) (by rfl) T.z_repr (by decide +kernel) (pa_cons (pe_g G_law_below gd (hr.mono (by decide)) (by rfl) T.g_law_below T.F_law_below.kp T.b_law_below .nil pass0 (pa_cons (pv 1) (pa_cons (pv 4) pa_nil))) pa_nil)) (nomark _))))) (pss_one (ps_ret pe_bl)) pss_nil)
      (pss_cons (ps_set (i := 8) sc_law_right.nd rfl (Or.inl rfl) (pe_gk G_width_numbered gd (hr.mono (by decide)) (by rfl) T.g_width_numbered T.F_width_numbered.kp T.w_width_numbered_number_widths pass0 (pk_cons (pv 4) (pk_cons (pv 1) pk_nil))))
      (pss_one (ps_if (pt_cmpR op_isN (pv 8) pe_non (nomark _)) (pss_one (ps_if (PW.pt (pw_or (pt_cmpR op_in_seq pe_bl (pe_ix (ix_tupK (K := K) rfl) (pv 1) pe_int (fun _ _ => rfl)) (by rfl)) (pw_or1 (pt_cmpR op_lt (pv 4) (pe_callB (call_lenK (K := K) rfl) (by rfl) T.z_len (by decide +kernel) (pa_cons (pv 5) pa_nil)) (nomark _))))) (pss_one (ps_ret pe_bl)) pss_nil)) (pss_one (ps_if (PW.pt (pw_or (pt_not (pt_val (pe_g G_law_item gd (hr.mono (by decide)) (by rfl) T.g_law_item T.F_law_item.kp T.b_law_item .nil pass0 (pa_cons (pv 1) (pa_cons (pv 8) pa_nil))))) (pw_or (pt_cmpR op_ne (pe_g G_law_below gd (hr.mono (by decide)) (by rfl) T.g_law_below T.F_law_below.kp T.b_law_below .nil pass0 (pa_cons (pv 1) (pa_cons (pv 8) pa_nil))) (pv 4) (nomark _)) (pw_or1 (pt_cmpR op_isnot_bl (pe_g G_has_width gd (hr.mono (by decide)) (by rfl) T.g_has_width T.F_has_width.kp T.b_has_width .nil pass0 (pa_cons (pv 1) (pa_cons (pv 8) pa_nil))) pe_bl (nomark _)))))) (pss_one (ps_ret pe_bl)) pss_nil)))))))))
      (pss_cons (ps_if (PW.pt (pw_or (pt_cmpR op_ne (pe_callB (call_reprT gd hr.units) (by rfl) T.z_repr (by decide +kernel) (pa_cons (pe_gk G_text_of_widths gd (hr.mono (by decide)) (by rfl) T.g_text_of_widths T.F_text_of_widths.kp T.w_text_of_widths_widths pass0 (pk_cons (pv 1) pk_nil)) pa_nil)) (pe_callB (call_reprT gd hr.units) (by rfl) T.z_repr (by decide +kernel) (pa_cons (pe_g G_law_text gd (hr.mono (by decide)) (by rfl) T.g_law_text T.F_law_text.kp T.b_law_text .nil pass0 (pa_cons (pv 1) pa_nil)) pa_nil)) (nomark _)) (pw_or1 (pt_cmpR op_ne (pe_callB (call_reprT gd hr.units) (by rfl) T.z_repr (by decide +kernel) (pa_cons (pe_gk G_widths_of_text gd (hr.mono (by decide)) (by rfl) T.g_widths_of_text T.F_widths_of_text.kp T.w_widths_of_text_text pass0 (pk_cons (pe_g G_law_text gd (hr.mono (by decide)) (by rfl) T.g_law_text T.F_law_text.kp T.b_law_text .nil pass0 (pa_cons (pv 1) pa_nil)) pk_nil)) pa_nil)) (pe_callB (call_reprT gd hr.units) (by rfl) T.z_repr (by decide +kernel) (pa_cons (pe_g G_law_plain gd (hr.mono (by decide)) (by rfl) T.g_law_plain T.F_law_plain.kp T.b_law_plain .nil pass0 (pa_cons (pv 1) pa_nil)) pa_nil)) (nomark _))))) (pss_one (ps_ret pe_bl)) pss_nil)
      (pss_one (ps_ret (pe_cmpR op_eq (pe_callB (call_reprT gd hr.units) (by rfl) T.z_repr (by decide +kernel) (pa_cons (pv 1) pa_nil)) (pv 2) (nomark _))))))))))), ?_⟩
    have sm : ∀ {b : Nat}, b ≤ 1000 → b < 2 ^ 2000 := fun {b} hb => by
      have : (1000 : Nat) < 2 ^ 2000 := by decide +kernel
      omega
    refine ⟨_, rfl, a, t, m, 8, rfl, g0, by omega, by decide, by decide, fun kx B U H1 x1 g1 dt1 lB u0 lU => ?_⟩
    have lb : (blV B).length = B.length := List.length_map ..
    have lu : (blV U).length = U.length := List.length_map ..
    have sK : Shows (wdD B U) := wd_shows (by omega) (by omega)
    obtain ⟨ka, kb, kc, rfl, hka, hkb, hkc⟩ := dt1.wd
    have ok1 : WdOk H1 (.ref ka) B U := ⟨dt1.on, u0, by omega, by omega⟩
    have at0 : ∀ {H'}, Same (off a H1) (off a H') → SqT K H' ka [.ref kb, .ref kc] ∧ SqL K H' kb (blV B) ∧ SqL K H' kc (blV U) := fun {H'} e => ⟨.inl (.inl (off_at (e _ _ hka)).2), .inl (.inl (off_at (e _ _ hkb)).2), .inl (.inl (off_at (e _ _ hkc)).2)⟩
    obtain ⟨sq, sa, st⟩ := at0 (Same.refl _)
    refine ⟨_, rfl, _, _, rfl, dt1.on, sK, _, rfl, ka, _, 0, _, rfl, rfl, sq, rfl, kb, _, rfl, .inl sa, _, rfl, ka, _, 1, _, rfl, rfl, sq, rfl, kc, _, rfl, .inl st, _, _, rfl, rfl, _, _, rfl, ?_⟩
    have ef : ((blV B).length : Int) + ((blV U).length : Int) = ((B.length + U.length : Nat) : Int) := by rw [lb, lu, Int.natCast_add]
    dsimp only
    rw [ef]
    -- the least one
    refine ⟨_, rfl, rfl, _, B, U, rfl, ok1, fun H2 e2 => ?_⟩
    have s110 : 0 + (B.length + U.length) < 2 ^ 110 := by omega
    refine ⟨_, _, rfl, Dt.opt _, first_nice s110, _, rfl, _, rfl, _, B, U, 0, B.length + U.length, rfl, dt1.on.to e2, u0, ?_⟩
    rw [Nat.sub_zero]
    refine ⟨_, _, rfl, Dt.opt _, first_nice s110, rfl, _, rfl, ?_⟩
    rw [veq]
    refine iteF ?_
    have x2 := x1.trans (SameX.of e2)
    have g2 := g1.same e2
    have o2 : Same (off a H1) (off a H2) := (SameX.of e2).off
    clear e2
    -- the places
    obtain ⟨sq, sa, st⟩ := at0 o2
    refine ⟨_, rfl, ka, _, 0, _, rfl, rfl, sq, rfl, kb, _, rfl, .inl sa, _, rfl, by rw [lb]; omega, by rw [lb]; omega, fun D hD => ?_⟩
    rw [lb, Int.toNat_natCast]
    have nD := g2.ne hD
    refine lc_range (lo := 0) (n := B.length) (fun i H' => Same H2 H' ∧ H' D = some (.lst (natV (placesTo B i)))) ⟨same_new' hD, upd_same⟩ ?_ ?_
    · rintro i H' hi ⟨s3, e3⟩
      obtain ⟨sq3, sa3, _⟩ := at0 (o2.trans (SameX.of s3).off)
      refine ⟨rfl, _, rfl, ka, _, 0, _, rfl, rfl, sq3, rfl, _, rfl, _, _, _, _, rfl, rfl, sa3, (by rw [Int.zero_add]; exact atI_nat (bl_at hi)), _, rfl, ?_⟩
      have ps := places_step B i
      cases hb2 : B.getD i false with
      | true =>
        rw [if_pos hb2] at ps
        have lp := placesTo_len B i (by omega)
        have lc := List.count_le_length (a := true) (l := B.take i)
        rw [List.length_take] at lc
        refine iteT ⟨_, rfl, _, e3, by rw [natV_len]; exact small1000 (by omega), fun g o hg => ?_, ?_⟩
        · rw [upd_ne (ne_of_none hg hD)]
          exact s3 g o hg
        · rw [upd_same, ps, Int.zero_add, natV_snoc]
      | false =>
        rw [if_neg (by rw [hb2]; exact Bool.false_ne_true), List.append_nil] at ps
        exact iteF ⟨s3, by rw [ps]; exact e3⟩
    rintro H3 ⟨s3, e3⟩
    have e3 : H3 D = some (.lst (natV (placesW B))) := e3
    dsimp only [gName]
    have x3 := x2.trans (SameX.of s3)
    have g3 := g2.same s3
    have o3 : Same (off a H1) (off a H3) := o2.trans (SameX.of s3).off
    have pcount := placesW_len B
    have pcl := List.count_le_length (a := true) (l := B)
    clear s3
    -- the greatest one
    have sG : Shows (optD (greatF B U)) := (opt_nice fun w e => by
      unfold greatF at e
      split at e
      · cases e
      · have := places_lt w (List.mem_of_getLast? e)
        omega).shows
    refine ⟨_, rfl, rfl, _, B, U, rfl, ⟨(dt1.to o3).on, u0, by omega, by omega⟩, fun H4 e4 => ?_⟩
    have eD4 := e4 _ _ e3
    have x4 := x3.trans (SameX.of e4)
    have g4 := g3.same e4
    have o4 : Same (off a H1) (off a H4) := o3.trans (SameX.of e4).off
    clear e4
    obtain ⟨sq4, sa4, st4⟩ := at0 o4
    refine ⟨_, _, rfl, Dt.opt _, sG, cbL (oneL (great_ev rfl rfl sq4 st4 eD4 fun H5 e5 => ?_))⟩
    refine ⟨_, _, rfl, Dt.opt _, sG, rfl, _, rfl, ?_⟩
    rw [veq]
    refine iteF ?_
    have x5 := x4.trans (SameX.of e5)
    have g5 := g4.same e5
    have o5 : Same (off a H1) (off a H5) := o4.trans (SameX.of e5).off
    have eD5 := e5 _ _ eD4
    clear e5 x4 x3 x2 g3 g2 g1 o3 o2 o4 eD4 e3 sq4 sa4 st4 sq sa st
    -- six times
    refine ⟨6, rfl, by decide, by decide, ?_⟩
    refine for_range (n := 6) (fun j σ H' => SameX a H H' ∧ Gn a t (m + 20000 + 200 * j) H' ∧ Same (off a H1) (off a H') ∧ H' D = some (.lst (natV (placesW B))) ∧ ∃ z4 z6 z7 z8 : Option V, σ = [some (.ref a), some (.ref ka), some (.str (wdD B U).shown), some (.int ((B.length + U.length : Nat) : Int)), z4, some (.ref D), z6, z7, z8])
      ⟨x5, g5.up (by omega), o5, eD5, none, none, none, none, rfl⟩ ?_ ?_
    · rintro j σ HC hj ⟨xC, gC, oC, eC, w4, w6, w7, w8, rfl⟩
      refine ⟨_, rfl, _, _, rfl, rfl, powW_ok (n := 4) (j := 30) (by decide) (by decide), by rw [sizeLine_eq]; show 2 ≤ _; decide, fun y hy => ?_⟩
      have eD := same_new' (o := .lst [.int 20, .int (10 ^ 30)]) hy
      have ny := gC.ne hy
      have gD := gC.same eD
      have hyD : (upd HC y (.lst [.int 20, .int (10 ^ 30)])) y = some (.lst [.int 20, .int (10 ^ 30)]) := upd_same
      have xD := xC.trans (SameX.of eD)
      have oD := oC.trans (SameX.of eD).off
      have eCD := eD _ _ eC
      refine ⟨_, rfl, a, 2, t, _, rfl, (by exact gD), by omega, by decide, sm (by decide), fun r HE hr3 xE gE => ?_⟩
      have hyE := xE _ _ ny hyD
      obtain ⟨bd, hbd, b0, b1⟩ : ∃ bd : Nat, ([.int 20, .int (10 ^ 30)] : List V)[r]? = some (.int (bd : Int)) ∧ 0 < bd ∧ bd ≤ 10 ^ 30 := by
        match r, hr3 with
        | 0, _ => exact ⟨20, rfl, by decide, by decide +kernel⟩
        | 1, _ => exact ⟨10 ^ 30, rfl, by decide +kernel, by decide +kernel⟩
        | r + 2, h => omega
      have b2 : bd < 2 ^ 2000 := Nat.lt_of_le_of_lt b1 (by decide +kernel)
      refine ⟨y, _, r, _, rfl, rfl, .inl (.inl hyE), atI_nat hbd, a, bd, t, _, rfl, gE, by omega, b0, b2, fun n HF hn xF gF => ?_⟩
      have nbig : n < 10 ^ 30 := by omega
      have t30 : (10 : Nat) ^ 30 < 2 ^ 100 := by decide
      have t100 : (2 : Nat) ^ 100 + 100 < 2 ^ 110 := by decide
      have t200 : (2 : Nat) ^ 110 < 2 ^ 200 := by decide
      have xx := (xD.trans xE).trans xF
      have oF := oD.trans (xE.trans xF).off
      have eF : HF D = some (.lst (natV (placesW B))) := (xE.trans xF) _ _ nD eCD
      obtain ⟨sqF, saF, stF⟩ := at0 oF
      have okAt : ∀ {H'}, Same HF H' → WdOk H' (.ref ka) B U := fun {H'} e => ⟨((dt1.to oF).to (SameX.of e).off).on, u0, by omega, by omega⟩
      have n110 : (n + 1) + (max (n + 1) B.length + U.length - (n + 1)) < 2 ^ 110 := by omega
      have n200 : n < 2 ^ 200 := by omega
      have eM : (if ((blV B).length : Int) > (n : Int) + 1 then ((blV B).length : Int) else (n : Int) + 1) + ((blV U).length : Int) = ((max (n + 1) B.length + U.length : Nat) : Int) := by
        rw [lb, lu]
        split <;> omega
      have sN : Shows (optD (firstW (itemW B U) (n + 1) (max (n + 1) B.length + U.length - (n + 1)))) := first_nice n110
      have bl8 : (n + 1) * U.length ≤ (n + 1) * 8 := Nat.mul_le_mul_left _ lU
      have t38 : (10 : Nat) ^ 30 * 100 < 10 ^ 38 := by decide
      have sB : Shows (.int ((belowF B U n : Nat) : Int)) := (nat38 (by have := below_le (A := B) (T := U) (n := n); omega)).shows
      refine ⟨_, rfl, _, rfl, _, _, rfl, rfl, _, rfl, _, _, rfl, rfl, _, rfl, ka, _, 0, _, rfl, rfl, sqF, rfl, kb, _, rfl, .inl saF, _, _, rfl, _, rfl, ka, _, 1, _, rfl, rfl, sqF, rfl, kc, _, rfl, .inl stF, _, _, rfl, rfl, .ref ka, B, U, n + 1, max (n + 1) B.length + U.length, (by rw [← eM]; rfl), (okAt (Same.refl _)).dt, u0, ?_⟩
      dsimp only [gName]
      refine ⟨_, rfl, _, rfl, rfl, _, B, U, n, rfl, okAt (Same.refl _), fun HG eG => ?_⟩
      refine ⟨_, _, rfl, Dt.opt _, sN, _, rfl, _, _, rfl, Dt.opt _, sN, rfl, _, rfl, ?_⟩
      rw [veq]
      refine iteF ⟨_, rfl, _, rfl, rfl, _, B, U, n, rfl, okAt eG, n200, fun HI eI => ?_⟩
      have eGI := eG.trans eI
      refine ⟨_, _, rfl, Dt.int _, sB, _, rfl, _, rfl, _, B, U, n, rfl, okAt eGI, n200, fun HJ eJ => ?_⟩
      have eGJ := eGI.trans eJ
      refine ⟨_, _, rfl, Dt.int _, sB, rfl, _, rfl, ?_⟩
      rw [veq]
      refine iteF ⟨_, rfl, _, rfl, rfl, _, B, U, n, rfl, okAt eGJ, n200, fun HK eK => ?_⟩
      have eGK := eGJ.trans eK
      have fin : ∀ H', Same HK H' → SameX a H H' ∧ Gn a t (m + 20000 + 200 * ((j + 1 : Nat) : Int)) H' ∧ Same (off a H1) (off a H') ∧ H' D = some (.lst (natV (placesW B))) := fun H' e => by
        have e' := eGK.trans e
        exact ⟨xx.trans (SameX.of e'), (gF.same e').up (by omega), oF.trans (SameX.of e').off, e' _ _ eF⟩
      obtain ⟨sqK, saK, stK⟩ := at0 (fin HK (Same.refl _)).2.2.1
      cases hnum : numbF B U n with
      | none =>
        obtain ⟨na, nc⟩ := numb_none hnum
        refine ⟨_, rfl, rfl, _, rfl, ?_⟩
        rw [show decide (optV none = V.non) = true from decide_eq_true rfl]
        refine iteT ⟨_, rfl, ka, _, 1, _, rfl, rfl, sqK, rfl, kc, _, rfl, .inl stK, rfl, flat_bls U, _, rfl, ?_⟩
        show if inV (.bl true) (blV U) = true then _ else _
        rw [in_bls, na]
        refine iteF ⟨_, rfl, _, rfl, D, _, rfl, .inl (.inl (.inl (eGK _ _ eF))), _, _, rfl, rfl, _, rfl, ?_⟩
        rw [natV_len, pcount]
        have ed : decide ((n : Int) < ((B.count true : Nat) : Int)) = false := decide_eq_false (by omega)
        rw [ed]
        obtain ⟨p1, p2, p3, p4⟩ := fin HK (Same.refl _)
        exact iteF ⟨p1, p2, p3, p4, _, _, _, _, rfl⟩
      | some v =>
        obtain ⟨na, nc⟩ := numb_some u0 hnum
        have vl := numb_lt hnum
        have v200 : v < 2 ^ 200 := by omega
        refine ⟨_, rfl, rfl, _, rfl, ?_⟩
        rw [show decide (optV (some v) = V.non) = false from decide_eq_false fun z => nomatch z]
        refine iteF ⟨_, rfl, _, rfl, _, B, U, v, rfl, (okAt eGK).dt, u0, _, rfl, ?_⟩
        rw [na]
        refine iteF ⟨_, rfl, _, rfl, _, B, U, v, rfl, okAt eGK, v200, fun HL eL => ?_⟩
        refine ⟨_, rfl, rfl, _, rfl, ?_⟩
        rw [nc, show decide (V.int (n : Int) = V.int (n : Int)) = true from decide_eq_true rfl]
        refine iteF ⟨_, rfl, _, rfl, _, B, U, v, rfl, okAt (eGK.trans eL), fun HM eM2 => ?_⟩
        rw [na]
        obtain ⟨p1, p2, p3, p4⟩ := fin HM (eL.trans eM2)
        exact ⟨_, _, rfl, rfl, _, rfl, iteF ⟨p1, p2, p3, p4, _, _, _, _, rfl⟩⟩
    · rintro σ HC ⟨xC, gC, oC, eC, w4, w6, w7, w8, rfl⟩
      have okAt : ∀ {H'}, Same HC H' → WdOk H' (.ref ka) B U := fun {H'} e => ⟨((dt1.to oC).to (SameX.of e).off).on, u0, by omega, by omega⟩
      have sT : Shows (.str (textS B U)) := textS_shows (by omega) (by omega)
      have pl := plainF_len B U
      have sP : Shows (wdD (plainF B U).1 (plainF B U).2) := wd_shows (by omega) (by omega)
      refine ⟨_, rfl, rfl, _, B, U, rfl, okAt (Same.refl _), fun J1 f1 => ?_⟩
      refine ⟨_, _, rfl, Dt.str _, sT, _, rfl, _, B, U, rfl, okAt f1, fun J2 f2 => ?_⟩
      refine ⟨_, _, rfl, Dt.str _, sT, rfl, _, rfl, ?_⟩
      rw [veq]
      have f12 := f1.trans f2
      refine iteF ⟨_, rfl, _, B, U, rfl, okAt f12, fun J3 f3 => ⟨rfl, B, U, rfl, u0, by omega, by omega, fun f fp fq J4 f4 _ _ _ _ hf hfp hfq => ?_⟩⟩
      have f14 := (f12.trans f3).trans f4
      refine ⟨_, _, rfl, Dt.wd_of hf hfp hfq, sP, _, rfl, _, B, U, rfl, okAt f14, fun dx J5 f5 dd => ?_⟩
      refine ⟨_, _, rfl, dd, sP, rfl, _, rfl, ?_⟩
      rw [veq]
      refine iteF ⟨_, rfl, _, _, rfl, (okAt (f14.trans f5)).dt, sK, _, rfl, rfl, ?_⟩
      rw [veq]
      exact q _ (xC.trans (SameX.of (f14.trans f5)))

end

end K42

set_option Elab.async false
set_option linter.all false
set_option maxRecDepth 100000
set_option maxHeartbeats 4000000
namespace K42
open PySem PySem.Spec PyProof.Rows L2 Hw
section
variable {P : Program} {w : World} {K : PySem.W.Frag} {mg : Str → Option Value} {base : Heap}

theorem v1 : firstW (itemW [] [false, true]) 0 (([] : List Bool).length + [false, true].length) = some 1 := by decide +kernel
theorem v2 : firstW (itemW [] [false, true]) (3 + 1) (max (3 + 1) ([] : List Bool).length + [false, true].length - (3 + 1)) = some 5 := by decide +kernel
theorem v3 : greatF [] [false, true] = none := by decide +kernel
theorem v4 : greatF [true, true] [false] = some 1 := by decide +kernel
theorem v5 : belowF [] [true, false, false] 10 = 4 := by decide +kernel
theorem v6 : numbF [] [true, false, false] (10 ^ 28) = some (3 * 10 ^ 28) := by decide +kernel
theorem v7 : textS [] [false, true] = "(01)" := by decide +kernel
theorem v8 : ("110(0)" : Str) = textS [true, true, false] [false] := by decide +kernel
theorem v9 : plainF [true, true, false] [false] = ([true, true], [false]) := by decide +kernel
theorem v10 : numbF [true] [false] 1 = none := by decide +kernel
theorem v11 : firstW (itemW [] [false]) 0 (([] : List Bool).length + [false].length) = none := by decide +kernel
def toldD : List PyData := [.int 1, .int 5, .none, .int 1, .int 4, .int (3 * 10 ^ 28), .str "(01)", wdD [true, true] [false], .none, .none]
theorem toldS : Shows (.list toldD) := Nice.shows (Bnd.nice (k := 3) (b := 200) ⟨by decide +kernel, by decide +kernel, by decide +kernel⟩ (by decide) (by decide))
def spLaw (K : PySem.W.Frag) : Sp := fun vs H Q _ => ∃ (a : Addr) (ns : List Int), vs = [.ref a] ∧ ns.length ≤ 63 ∧ SqL K H a (ns.map V.int) ∧ ∀ H' : Hp, Q (.bl true) H'
theorem ok_law (T : Tx K mg) : FnG P w K mg base CX0 7 T.a_law T.d_law ["_law_script"] (spLaw K) := by
  have G_law_generator := ok_law_generator (P := P) (w := w) (base := base) T
  have G_law_right := ok_law_right (P := P) (w := w) (base := base) T
  have G_least_width := ok_least_width (P := P) (w := w) (base := base) T
  have G_next_width := ok_next_width (P := P) (w := w) (base := base) T
  have G_greatest_width := ok_greatest_width (P := P) (w := w) (base := base) T
  have G_how_many_below := ok_how_many_below (P := P) (w := w) (base := base) T
  have G_width_numbered := ok_width_numbered (P := P) (w := w) (base := base) T
  have G_text_of_widths := ok_text_of_widths (P := P) (w := w) (base := base) T
  have G_widths_of_text := ok_widths_of_text (P := P) (w := w) (base := base) T
  refine bodyG0 T.F_law sc_law (fun vs H Q E h => ?_) (fun cdv A outer s H vs Q E gd hr h => ?_)
  · obtain ⟨a, ns, rfl, _⟩ := h; rfl
  · obtain ⟨a, ns, rfl, _, hS, q⟩ := h
    refine ⟨_, (pss_cons (ps_for PassesOwn.never rfl (pi_range1 (by rfl) T.z_range (pa_cons pe_int pa_nil)) (pg_name (i := 1) sc_law.nd rfl (Or.inl rfl)) (pss_one (ps_if (pt_not (pt_val (pe_g G_law_right gd (hr.mono (by decide)) (by rfl) T.g_law_right T.F_law_right.kp T.b_law_right .nil pass0 (pa_cons (pe_g G_law_generator gd (hr.mono (by decide)) (by rfl) T.g_law_generator T.F_law_generator.kp T.b_law_generator .nil pass0 (pa_cons (pv 0) (pa_cons (pv 1) pa_nil))) pa_nil)))) (pss_one (ps_ret pe_bl)) pss_nil)))
      (pss_cons (ps_par (i := 2) (j := 3) rfl sc_law.nd rfl rfl (by decide) rfl rfl (pa_cons (pe_tup (pa_cons (pe_lst pa_nil) (pa_cons (pe_lst (pa_cons pe_bl (pa_cons pe_bl pa_nil))) pa_nil))) (pa_cons (pe_tup (pa_cons (pe_lst pa_nil) (pa_cons (pe_lst (pa_cons pe_bl (pa_cons pe_bl (pa_cons pe_bl pa_nil)))) pa_nil))) pa_nil)) (by rfl))
      (pss_cons (ps_set (i := 4) sc_law.nd rfl (Or.inl rfl) (pe_lst (pa_cons (pe_g G_least_width gd (hr.mono (by decide)) (by rfl) T.g_least_width T.F_least_width.kp T.b_least_width .nil pass0 (pa_cons (pv 2) pa_nil)) (pa_cons (pe_g G_next_width gd (hr.mono (by decide)) (by rfl) T.g_next_width T.F_next_width.kp T.b_next_width .nil pass0 (pa_cons (pv 2) (pa_cons pe_int pa_nil))) (pa_cons (pe_g G_greatest_width gd (hr.mono (by decide)) (by rfl) T.g_greatest_width T.F_greatest_width.kp T.b_greatest_width .nil pass0 (pa_cons (pv 2) pa_nil)) (pa_cons (pe_g G_greatest_width gd (hr.mono (by decide)) (by rfl) T.g_greatest_width T.F_greatest_width.kp T.b_greatest_width .nil pass0 (pa_cons (pe_tup (pa_cons (pe_lst (pa_cons pe_bl (pa_cons pe_bl pa_nil))) (pa_cons (pe_lst (pa_cons pe_bl pa_nil)) pa_nil))) pa_nil)) (pa_cons (pe_g G_how_many_below gd (hr.mono (by decide)) (by rfl) T.g_how_many_below T.F_how_many_below.kp T.b_how_many_below .nil pass0 (pa_cons (pv 3) (pa_cons pe_int pa_nil))) pa_nil)))))))
      (pss_cons (ps_set (i := 4) sc_law.nd rfl (Or.inl rfl) (pe_op op_cat (pv 4) (pe_lst (pa_cons (pe_g G_width_numbered gd (hr.mono (by decide)) (by rfl) T.g_width_numbered T.F_width_numbered.kp T.b_width_numbered .nil pass0 (pa_cons (pv 3) (pa_cons (pe_op op_powW pe_int pe_int) pa_nil))) (pa_cons (pe_g G_text_of_widths gd (hr.mono (by decide)) (by rfl) T.g_text_of_widths T.F_text_of_widths.kp T.b_text_of_widths .nil pass0 (pa_cons (pv 2) pa_nil)) (pa_cons (pe_g G_widths_of_text gd (hr.mono (by decide)) (by rfl) T.g_widths_of_text T.F_widths_of_text.kp T.b_widths_of_text .nil pass0 (pa_cons pe_str pa_nil)) (pa_cons (pe_g G_width_numbered gd (hr.mono (by decide)) (by rfl) T.g_width_numbered T.F_width_numbered.kp T.b_width_numbered .nil pass0 (pa_cons (pe_tup (pa_cons (pe_lst (pa_cons pe_bl pa_nil)) (pa_cons (pe_lst (pa_cons pe_bl pa_nil)) pa_nil))) (pa_cons pe_int pa_nil))) (pa_cons (pe_g G_least_width gd (hr.mono (by decide)) (by rfl) T.g_least_width T.F_least_width.kp T.b_least_width .nil pass0 (pa_cons (pe_tup (pa_cons (pe_lst pa_nil) (pa_cons (pe_lst (pa_cons pe_bl pa_nil)) pa_nil))) pa_nil)) pa_nil))))))))
      (pss_one (ps_ret (pe_cmpR op_eq (pe_callB (call_reprT gd hr.units) (by rfl) T.z_repr (by decide +kernel) (pa_cons (pv 4) pa_nil)) (pe_callB (call_reprT gd hr.units) (by rfl) T.z_repr (by decide +kernel) (pa_cons (pe_lst (pa_cons pe_int (pa_cons pe_int (pa_cons pe_non (pa_cons pe_int (pa_cons pe_int (pa_cons (pe_op op_mulX pe_int (pe_op op_powW pe_int pe_int)) (pa_cons pe_str (pa_cons (pe_tup (pa_cons (pe_lst (pa_cons pe_bl (pa_cons pe_bl pa_nil))) (pa_cons (pe_lst (pa_cons pe_bl pa_nil)) pa_nil))) (pa_cons pe_non (pa_cons pe_non pa_nil))))))))))) pa_nil)) (nomark _)))))))), ?_⟩
    have sz1 : ∀ {n : Nat}, n ≤ 1000 → n ≤ sizeLine := fun {n} h => by rw [sizeLine_eq]; omega
    refine ⟨2, rfl, by decide, by decide, for_range (n := 2) (fun i σ H' => ∃ y : Option V, σ = [some (.ref a), y, none, none, none] ∧ SqL K H' a (ns.map V.int)) ⟨none, rfl, hS⟩ ?_ ?_⟩
    · rintro i σ H1 hi ⟨y, rfl, s1⟩
      refine ⟨_, rfl, _, rfl, a, ns, i, by rw [Int.zero_add]; rfl, by omega, s1, fun g H2 s t c e2 ng g2 go => ?_⟩
      refine ⟨g, t, _, rfl, ⟨s, c, g2, go⟩, by omega, fun H3 x3 => ⟨true, rfl, iteF ⟨_, rfl, (x3.same e2 ng).seq s1⟩⟩⟩
    · rintro σ H1 ⟨y, rfl, s1⟩
      clear s1
      refine ⟨sz1 (by show 0 ≤ 1000; decide), fun p1 hp1 => ⟨sz1 (by show 2 ≤ 1000; decide), fun q1 hq1 => ⟨sz1 (by show 2 ≤ 1000; decide), fun a1 ha1 => ?_⟩⟩⟩
      obtain ⟨e1, d1⟩ := lit_wd (A := []) (T := [false, true]) hp1 hq1 ha1
      refine ⟨sz1 (by show 0 ≤ 1000; decide), fun p2 hp2 => ⟨sz1 (by show 3 ≤ 1000; decide), fun q2 hq2 => ⟨sz1 (by show 2 ≤ 1000; decide), fun a2 ha2 => ?_⟩⟩⟩
      obtain ⟨e2, d2⟩ := lit_wd (A := []) (T := [true, false, false]) hp2 hq2 ha2
      have d1 := d1.to e2
      clear e1 e2
      refine ⟨_, _, rfl, ?_⟩
      have k1 := fun (H' : Hp) (e : Same _ H') => (⟨d1.to e, by decide, by decide, by decide⟩ : WdOk H' (.ref a1) [] [false, true])
      have k2 := fun (H' : Hp) (e : Same _ H') => (⟨d2.to e, by decide, by decide, by decide⟩ : WdOk H' (.ref a2) [] [true, false, false])
      refine ⟨_, rfl, _, _, _, rfl, k1 _ (Same.refl _), fun H3 s3 => ?_⟩
      refine ⟨_, rfl, _, _, _, 3, rfl, k1 _ s3, fun H4 s4 => ?_⟩
      have s4 := s3.trans s4
      refine ⟨_, rfl, _, _, _, rfl, k1 _ s4, fun H5 s5 => ?_⟩
      have s5 := s4.trans s5
      refine ⟨sz1 (by show 2 ≤ 1000; decide), fun p3 hp3 => ⟨sz1 (by show 1 ≤ 1000; decide), fun q3 hq3 => ⟨sz1 (by show 2 ≤ 1000; decide), fun a3 ha3 => ?_⟩⟩⟩
      obtain ⟨e3, d3⟩ := lit_wd (A := [true, true]) (T := [false]) hp3 hq3 ha3
      refine ⟨_, _, _, rfl, ⟨d3, by decide, by decide, by decide⟩, fun H6 s6 => ?_⟩
      have s6 := (s5.trans e3).trans s6
      refine ⟨_, rfl, _, _, _, 10, rfl, k2 _ s6, by decide, fun H7 s7 => ?_⟩
      have s7 := s6.trans s7
      rw [v1, v2, v3, v4, v5]
      refine ⟨sz1 (by show 5 ≤ 1000; decide), fun L hL => ?_⟩
      have f7 := same_new' (o := .lst [optV (some 1), optV (some 5), optV none, optV (some 1), .int ((4 : Nat) : Int)]) hL
      have hL7 : (upd H7 L (.lst [optV (some 1), optV (some 5), optV none, optV (some 1), .int ((4 : Nat) : Int)])) L = some (.lst [optV (some 1), optV (some 5), optV none, optV (some 1), .int ((4 : Nat) : Int)]) := upd_same
      have s8 := s7.trans f7
      generalize (upd H7 L (.lst [optV (some 1), optV (some 5), optV none, optV (some 1), .int ((4 : Nat) : Int)])) = H8 at f7 hL7 s8
      dsimp only [gName]
      refine ⟨_, rfl, _, rfl, _, _, rfl, rfl, powW_ok (n := 4) (j := 28) (by decide) (by decide), _, _, _, 10 ^ 28, by rfl, k2 _ s8, by decide +kernel, fun H9 s9 => ?_⟩
      have t9 := s9
      have s9 := s8.trans s9
      refine ⟨_, rfl, _, _, _, rfl, k1 _ s9, fun HA sA => ?_⟩
      have tA := t9.trans sA
      have sA := s9.trans sA
      rw [v8]
      refine ⟨_, _, rfl, by decide, by decide, by decide, fun f fp fq HB sB _ _ _ _ hf hfp hfq => ?_⟩
      rw [v9] at hfp hfq
      have dW : Dt HB (.ref f) (wdD [true, true] [false]) := .wd_of hf hfp hfq
      have tB := tA.trans sB
      refine ⟨sz1 (by show 1 ≤ 1000; decide), fun p4 hp4 => ⟨sz1 (by show 1 ≤ 1000; decide), fun q4 hq4 => ⟨sz1 (by show 2 ≤ 1000; decide), fun a4 ha4 => ?_⟩⟩⟩
      obtain ⟨e4, d4⟩ := lit_wd (A := [true]) (T := [false]) hp4 hq4 ha4
      have dW := dW.to e4
      refine ⟨_, _, _, 1, rfl, ⟨d4, by decide, by decide, by decide⟩, by decide, fun HC sC => ?_⟩
      have dW := dW.to sC
      have tC := (tB.trans e4).trans sC
      refine ⟨sz1 (by show 0 ≤ 1000; decide), fun p5 hp5 => ⟨sz1 (by show 1 ≤ 1000; decide), fun q5 hq5 => ⟨sz1 (by show 2 ≤ 1000; decide), fun a5 ha5 => ?_⟩⟩⟩
      obtain ⟨e5, d5⟩ := lit_wd (A := []) (T := [false]) hp5 hq5 ha5
      have dW := dW.to e5
      refine ⟨_, _, _, rfl, ⟨d5, by decide, by decide, by decide⟩, fun HD sD => ?_⟩
      have dW := dW.to sD
      have tD := (tC.trans e5).trans sD
      rw [v6, v7, v10, v11]
      refine ⟨sz1 (by show 5 ≤ 1000; decide), fun L2 hL2 => ?_⟩
      have fE := same_new' (o := .lst [optV (some (3 * 10 ^ 28)), .str "(01)", .ref f, optV none, optV none]) hL2
      refine ⟨L, L2, _, _, rfl, rfl, fE _ _ (tD _ _ hL7), upd_same, sz1 (by show 10 ≤ 1000; decide), fun L3 hL3 => ?_⟩
      have fF := same_new' (o := .lst ([optV (some 1), optV (some 5), optV none, optV (some 1), .int ((4 : Nat) : Int)] ++ [optV (some (3 * 10 ^ 28)), .str "(01)", .ref f, optV none, optV none])) hL3
      have dW := (dW.to fE).to fF
      have dT : Dt _ (.ref L3) (.list toldD) := .lst upd_same (.cons (.int 1) (.cons (.int 5) (.cons .non (.cons (.int 1) (.cons (.int 4) (.cons (.int (3 * 10 ^ 28)) (.cons (.str "(01)") (.cons dW (.cons .non (.cons .non .nil))))))))))

      refine ⟨_, rfl, .ref L3, .list toldD, rfl, dT, toldS, ?_⟩
      refine ⟨_, _, rfl, rfl, powW_ok (n := 4) (j := 28) (by decide) (by decide), _, _, rfl, rfl, (by exact mulx_ok (a := 10) (b := 100) (by decide) (by decide +kernel) (by decide)), ?_⟩
      refine ⟨sz1 (by show 2 ≤ 1000; decide), fun p6 hp6 => ⟨sz1 (by show 1 ≤ 1000; decide), fun q6 hq6 => ⟨sz1 (by show 2 ≤ 1000; decide), fun a6 ha6 => ?_⟩⟩⟩
      obtain ⟨e6, d6⟩ := lit_wd (A := [true, true]) (T := [false]) hp6 hq6 ha6
      refine ⟨sz1 (by show 10 ≤ 1000; decide), fun M hM => ?_⟩
      refine ⟨.ref M, .list toldD, rfl, .lst upd_same (.cons (.int 1) (.cons (.int 5) (.cons .non (.cons (.int 1) (.cons (.int 4) (.cons (.int (3 * 10 ^ 28)) (.cons (.str "(01)") (.cons (d6.to (same_new' hM)) (.cons .non (.cons .non .nil)))))))))), toldS, rfl, ?_⟩
      rw [veq]
      exact q _

end

end K42

set_option Elab.async false
set_option linter.all false
set_option maxRecDepth 100000
set_option maxHeartbeats 0
/-! ### the end -/
namespace K42E
open PySem PySem.Spec PyProof.Rows L2 Hw K42
def d_is_whole : He.DefD := ⟨("is_whole", none), "is_whole", "is_whole", defArgs s_is_whole, defBody s_is_whole, defScope s_is_whole, [], []⟩
def d_is_count : He.DefD := ⟨("is_count", none), "is_count", "is_count", defArgs s_is_count, defBody s_is_count, defScope s_is_count, [], []⟩
def d_is_widths : He.DefD := ⟨("is_widths", none), "is_widths", "is_widths", defArgs s_is_widths, defBody s_is_widths, defScope s_is_widths, [], []⟩
def d_are_told : He.DefD := ⟨("are_told", none), "are_told", "are_told", defArgs s_are_told, defBody s_are_told, defScope s_are_told, [], []⟩
def d_check_widths : He.DefD := ⟨("check_widths", none), "check_widths", "check_widths", defArgs s_check_widths, defBody s_check_widths, defScope s_check_widths, [], []⟩
def d_check_wide : He.DefD := ⟨("check_wide", none), "check_wide", "check_wide", defArgs s_check_wide, defBody s_check_wide, defScope s_check_wide, [], []⟩
def d_has_width : He.DefD := ⟨("has_width", none), "has_width", "has_width", defArgs s_has_width, defBody s_has_width, defScope s_has_width, [], []⟩
def d_is_in : He.DefD := ⟨("is_in", none), "is_in", "is_in", defArgs s_is_in, defBody s_is_in, defScope s_is_in, [], []⟩
def d_made_plain : He.DefD := ⟨("made_plain", none), "made_plain", "made_plain", defArgs s_made_plain, defBody s_made_plain, defScope s_made_plain, [], []⟩
def d_shortest_turn : He.DefD := ⟨("shortest_turn", none), "shortest_turn", "shortest_turn", defArgs s_shortest_turn, defBody s_shortest_turn, defScope s_shortest_turn, [], []⟩
def d_least_width : He.DefD := ⟨("least_width", none), "least_width", "least_width", defArgs s_least_width, defBody s_least_width, defScope s_least_width, [], []⟩
def d_next_width : He.DefD := ⟨("next_width", none), "next_width", "next_width", defArgs s_next_width, defBody s_next_width, defScope s_next_width, [], []⟩
def d_least_from : He.DefD := ⟨("least_from", none), "least_from", "least_from", defArgs s_least_from, defBody s_least_from, defScope s_least_from, [], []⟩
def d_greatest_width : He.DefD := ⟨("greatest_width", none), "greatest_width", "greatest_width", defArgs s_greatest_width, defBody s_greatest_width, defScope s_greatest_width, [], []⟩
def d_how_many_below : He.DefD := ⟨("how_many_below", none), "how_many_below", "how_many_below", defArgs s_how_many_below, defBody s_how_many_below, defScope s_how_many_below, [], []⟩
def d_width_numbered : He.DefD := ⟨("width_numbered", none), "width_numbered", "width_numbered", defArgs s_width_numbered, defBody s_width_numbered, defScope s_width_numbered, [], []⟩
def d_places_told : He.DefD := ⟨("places_told", none), "places_told", "places_told", defArgs s_places_told, defBody s_places_told, defScope s_places_told, [], []⟩
def d_text_of_widths : He.DefD := ⟨("text_of_widths", none), "text_of_widths", "text_of_widths", defArgs s_text_of_widths, defBody s_text_of_widths, defScope s_text_of_widths, [], []⟩
def d_figures_of : He.DefD := ⟨("figures_of", none), "figures_of", "figures_of", defArgs s_figures_of, defBody s_figures_of, defScope s_figures_of, [], []⟩
def d_widths_of_text : He.DefD := ⟨("widths_of_text", none), "widths_of_text", "widths_of_text", defArgs s_widths_of_text, defBody s_widths_of_text, defScope s_widths_of_text, [], []⟩
def d_law_hash : He.DefD := ⟨("_law_hash", none), "_law_hash", "_law_hash", defArgs s_law_hash, defBody s_law_hash, defScope s_law_hash, [], []⟩
def d_law_random : He.DefD := ⟨("_law_random", none), "_law_random", "_law_random", defArgs s_law_random, defBody s_law_random, defScope s_law_random, [], []⟩
def d_law_cell : He.DefD := ⟨("_law_cell", none), "_law_cell", "_law_cell", defArgs s_law_cell, defBody s_law_cell, defScope s_law_cell, [], []⟩
def d_law_generator : He.DefD := ⟨("_law_generator", none), "_law_generator", "_law_generator", defArgs s_law_generator, defBody s_law_generator, defScope s_law_generator, [], []⟩
def d_law_item : He.DefD := ⟨("_law_item", none), "_law_item", "_law_item", defArgs s_law_item, defBody s_law_item, defScope s_law_item, [], []⟩
def d_law_plain : He.DefD := ⟨("_law_plain", none), "_law_plain", "_law_plain", defArgs s_law_plain, defBody s_law_plain, defScope s_law_plain, [], []⟩
def d_law_set : He.DefD := ⟨("_law_set", none), "_law_set", "_law_set", defArgs s_law_set, defBody s_law_set, defScope s_law_set, [], []⟩
def d_law_first : He.DefD := ⟨("_law_first", none), "_law_first", "_law_first", defArgs s_law_first, defBody s_law_first, defScope s_law_first, [], []⟩
def d_law_below : He.DefD := ⟨("_law_below", none), "_law_below", "_law_below", defArgs s_law_below, defBody s_law_below, defScope s_law_below, [], []⟩
def d_law_text : He.DefD := ⟨("_law_text", none), "_law_text", "_law_text", defArgs s_law_text, defBody s_law_text, defScope s_law_text, [], []⟩
def d_law_right : He.DefD := ⟨("_law_right", none), "_law_right", "_law_right", defArgs s_law_right, defBody s_law_right, defScope s_law_right, [], []⟩
def d_law : He.DefD := ⟨("law", none), "law", "law", defArgs s_law, defBody s_law, defScope s_law, [], []⟩
def fn : List He.DefD := [d_is_whole, d_is_count, d_is_widths, d_are_told, d_check_widths, d_check_wide, d_has_width, d_is_in, d_made_plain, d_shortest_turn, d_least_width, d_next_width, d_least_from, d_greatest_width, d_how_many_below, d_width_numbered, d_places_told, d_text_of_widths, d_figures_of, d_widths_of_text, d_law_hash, d_law_random, d_law_cell, d_law_generator, d_law_item, d_law_plain, d_law_set, d_law_first, d_law_below, d_law_text, d_law_right, d_law]
def fa : List He.Fa := [.glo "is_whole", .glo "is_count", .glo "is_widths", .glo "are_told", .glo "check_widths", .glo "check_wide", .glo "has_width", .glo "is_in", .glo "made_plain", .glo "shortest_turn", .glo "least_width", .glo "next_width", .glo "least_from", .glo "greatest_width", .glo "how_many_below", .glo "width_numbered", .glo "places_told", .glo "text_of_widths", .glo "figures_of", .glo "widths_of_text", .glo "_law_hash", .glo "_law_random", .glo "_law_cell", .glo "_law_generator", .glo "_law_item", .glo "_law_plain", .glo "_law_set", .glo "_law_first", .glo "_law_below", .glo "_law_text", .glo "_law_right", .glo "law", .free "all", .free "any", .free "bool", .free "divmod", .free "enumerate", .free "int", .free "isinstance", .free "len", .free "list", .free "max", .free "range", .free "repr", .free "str", .free "sum", .free "tuple"]
abbrev R : PySem.W.OpenRow := PySem.W.OpenLaw.row PySem.Challenge.rw_howeverwide_k42_whole_widths_counted
abbrev hk : PySem.W.Hook := He.hookD 4 fa fn
def ob (s : PySem.W.SharedT) : He.AlD := He.obsDG 4 fa fn (HandSHeadRun.getT s)
theorem ob_eq (s : PySem.W.SharedT) : ob s = hk.obs s.abs := He.obsDG_eq (HandSHeadRun.getT_eq s)
def loose0 : List PySem.Str := ["ClaimError", "InvalidNumber", "InvalidWidth", "InvalidWidths", "InvalidText", "is_whole", "is_count", "is_widths", "are_told", "check_widths", "check_wide", "has_width", "is_in", "made_plain", "shortest_turn", "least_width", "next_width", "least_from", "greatest_width", "how_many_below"]
def loose1 : List PySem.Str := ["width_numbered", "places_told", "text_of_widths", "figures_of", "widths_of_text", "_law_hash", "_law_random", "_law_cell", "_law_generator", "_law_item", "_law_plain", "_law_set", "_law_first", "_law_below", "_law_text", "_law_right"]
def loose : List PySem.Str := loose0 ++ loose1
theorem run (w : World) : HandSHeadRun.RunEq R (PySem.W.view R.prog [40]) hk ob 4000 loose w := by
  intro os
  kernel_rfl
theorem facts {P : Program} {w : World} {K : PySem.W.Frag} {h : Heap} {mg : Str → Option Value} {f : Addr} (X : K.In h) (G : h.Ns mainGlobals mg) (hfa : mg ("law" : Str) = some (.ref f)) (c : He.SaysD fa fn K) :
    ∃ fd : FuncData, (∀ (s : Shared) (v : Value), BindsTo s fd ⟨[v], []⟩ [("_law_script", v)]) ∧ ∀ base : Heap, K.In base → base.Ns mainGlobals mg → FnG P w K mg base CX0 7 f fd ["_law_script"] (spLaw K) := by
  obtain ⟨e_is_whole, F_is_whole⟩ := c.def_ 0 (d := d_is_whole) rfl
  obtain ⟨e_is_count, F_is_count⟩ := c.def_ 1 (d := d_is_count) rfl
  obtain ⟨e_is_widths, F_is_widths⟩ := c.def_ 2 (d := d_is_widths) rfl
  obtain ⟨e_are_told, F_are_told⟩ := c.def_ 3 (d := d_are_told) rfl
  obtain ⟨e_check_widths, F_check_widths⟩ := c.def_ 4 (d := d_check_widths) rfl
  obtain ⟨e_check_wide, F_check_wide⟩ := c.def_ 5 (d := d_check_wide) rfl
  obtain ⟨e_has_width, F_has_width⟩ := c.def_ 6 (d := d_has_width) rfl
  obtain ⟨e_is_in, F_is_in⟩ := c.def_ 7 (d := d_is_in) rfl
  obtain ⟨e_made_plain, F_made_plain⟩ := c.def_ 8 (d := d_made_plain) rfl
  obtain ⟨e_shortest_turn, F_shortest_turn⟩ := c.def_ 9 (d := d_shortest_turn) rfl
  obtain ⟨e_least_width, F_least_width⟩ := c.def_ 10 (d := d_least_width) rfl
  obtain ⟨e_next_width, F_next_width⟩ := c.def_ 11 (d := d_next_width) rfl
  obtain ⟨e_least_from, F_least_from⟩ := c.def_ 12 (d := d_least_from) rfl
  obtain ⟨e_greatest_width, F_greatest_width⟩ := c.def_ 13 (d := d_greatest_width) rfl
  obtain ⟨e_how_many_below, F_how_many_below⟩ := c.def_ 14 (d := d_how_many_below) rfl
  obtain ⟨e_width_numbered, F_width_numbered⟩ := c.def_ 15 (d := d_width_numbered) rfl
  obtain ⟨e_places_told, F_places_told⟩ := c.def_ 16 (d := d_places_told) rfl
  obtain ⟨e_text_of_widths, F_text_of_widths⟩ := c.def_ 17 (d := d_text_of_widths) rfl
  obtain ⟨e_figures_of, F_figures_of⟩ := c.def_ 18 (d := d_figures_of) rfl
  obtain ⟨e_widths_of_text, F_widths_of_text⟩ := c.def_ 19 (d := d_widths_of_text) rfl
  obtain ⟨e_law_hash, F_law_hash⟩ := c.def_ 20 (d := d_law_hash) rfl
  obtain ⟨e_law_random, F_law_random⟩ := c.def_ 21 (d := d_law_random) rfl
  obtain ⟨e_law_cell, F_law_cell⟩ := c.def_ 22 (d := d_law_cell) rfl
  obtain ⟨e_law_generator, F_law_generator⟩ := c.def_ 23 (d := d_law_generator) rfl
  obtain ⟨e_law_item, F_law_item⟩ := c.def_ 24 (d := d_law_item) rfl
  obtain ⟨e_law_plain, F_law_plain⟩ := c.def_ 25 (d := d_law_plain) rfl
  obtain ⟨e_law_set, F_law_set⟩ := c.def_ 26 (d := d_law_set) rfl
  obtain ⟨e_law_first, F_law_first⟩ := c.def_ 27 (d := d_law_first) rfl
  obtain ⟨e_law_below, F_law_below⟩ := c.def_ 28 (d := d_law_below) rfl
  obtain ⟨e_law_text, F_law_text⟩ := c.def_ 29 (d := d_law_text) rfl
  obtain ⟨e_law_right, F_law_right⟩ := c.def_ 30 (d := d_law_right) rfl
  obtain ⟨e_law, F_law⟩ := c.def_ 31 (d := d_law) rfl
  have g_is_whole := He.glo_ok X G (c.fact 0 (f := .glo "is_whole") rfl)
  have g_is_count := He.glo_ok X G (c.fact 1 (f := .glo "is_count") rfl)
  have g_is_widths := He.glo_ok X G (c.fact 2 (f := .glo "is_widths") rfl)
  have g_are_told := He.glo_ok X G (c.fact 3 (f := .glo "are_told") rfl)
  have g_check_widths := He.glo_ok X G (c.fact 4 (f := .glo "check_widths") rfl)
  have g_check_wide := He.glo_ok X G (c.fact 5 (f := .glo "check_wide") rfl)
  have g_has_width := He.glo_ok X G (c.fact 6 (f := .glo "has_width") rfl)
  have g_is_in := He.glo_ok X G (c.fact 7 (f := .glo "is_in") rfl)
  have g_made_plain := He.glo_ok X G (c.fact 8 (f := .glo "made_plain") rfl)
  have g_shortest_turn := He.glo_ok X G (c.fact 9 (f := .glo "shortest_turn") rfl)
  have g_least_width := He.glo_ok X G (c.fact 10 (f := .glo "least_width") rfl)
  have g_next_width := He.glo_ok X G (c.fact 11 (f := .glo "next_width") rfl)
  have g_least_from := He.glo_ok X G (c.fact 12 (f := .glo "least_from") rfl)
  have g_greatest_width := He.glo_ok X G (c.fact 13 (f := .glo "greatest_width") rfl)
  have g_how_many_below := He.glo_ok X G (c.fact 14 (f := .glo "how_many_below") rfl)
  have g_width_numbered := He.glo_ok X G (c.fact 15 (f := .glo "width_numbered") rfl)
  have g_places_told := He.glo_ok X G (c.fact 16 (f := .glo "places_told") rfl)
  have g_text_of_widths := He.glo_ok X G (c.fact 17 (f := .glo "text_of_widths") rfl)
  have g_figures_of := He.glo_ok X G (c.fact 18 (f := .glo "figures_of") rfl)
  have g_widths_of_text := He.glo_ok X G (c.fact 19 (f := .glo "widths_of_text") rfl)
  have g_law_hash := He.glo_ok X G (c.fact 20 (f := .glo "_law_hash") rfl)
  have g_law_random := He.glo_ok X G (c.fact 21 (f := .glo "_law_random") rfl)
  have g_law_cell := He.glo_ok X G (c.fact 22 (f := .glo "_law_cell") rfl)
  have g_law_generator := He.glo_ok X G (c.fact 23 (f := .glo "_law_generator") rfl)
  have g_law_item := He.glo_ok X G (c.fact 24 (f := .glo "_law_item") rfl)
  have g_law_plain := He.glo_ok X G (c.fact 25 (f := .glo "_law_plain") rfl)
  have g_law_set := He.glo_ok X G (c.fact 26 (f := .glo "_law_set") rfl)
  have g_law_first := He.glo_ok X G (c.fact 27 (f := .glo "_law_first") rfl)
  have g_law_below := He.glo_ok X G (c.fact 28 (f := .glo "_law_below") rfl)
  have g_law_text := He.glo_ok X G (c.fact 29 (f := .glo "_law_text") rfl)
  have g_law_right := He.glo_ok X G (c.fact 30 (f := .glo "_law_right") rfl)
  have g_law := He.glo_ok X G (c.fact 31 (f := .glo "law") rfl)
  have e := hfa.symm.trans g_law
  cases e
  let T : Tx K mg := { a_is_whole := _, d_is_whole := e_is_whole, F_is_whole := F_is_whole, g_is_whole := g_is_whole, a_is_count := _, d_is_count := e_is_count, F_is_count := F_is_count, g_is_count := g_is_count, a_is_widths := _, d_is_widths := e_is_widths, F_is_widths := F_is_widths, g_is_widths := g_is_widths, a_are_told := _, d_are_told := e_are_told, F_are_told := F_are_told, g_are_told := g_are_told, a_check_widths := _, d_check_widths := e_check_widths, F_check_widths := F_check_widths, g_check_widths := g_check_widths, a_check_wide := _, d_check_wide := e_check_wide, F_check_wide := F_check_wide, g_check_wide := g_check_wide, a_has_width := _, d_has_width := e_has_width, F_has_width := F_has_width, g_has_width := g_has_width, a_is_in := _, d_is_in := e_is_in, F_is_in := F_is_in, g_is_in := g_is_in, a_made_plain := _, d_made_plain := e_made_plain, F_made_plain := F_made_plain, g_made_plain := g_made_plain, a_shortest_turn := _, d_shortest_turn := e_shortest_turn, F_shortest_turn := F_shortest_turn, g_shortest_turn := g_shortest_turn, a_least_width := _, d_least_width := e_least_width, F_least_width := F_least_width, g_least_width := g_least_width, a_next_width := _, d_next_width := e_next_width, F_next_width := F_next_width, g_next_width := g_next_width, a_least_from := _, d_least_from := e_least_from, F_least_from := F_least_from, g_least_from := g_least_from, a_greatest_width := _, d_greatest_width := e_greatest_width, F_greatest_width := F_greatest_width, g_greatest_width := g_greatest_width, a_how_many_below := _, d_how_many_below := e_how_many_below, F_how_many_below := F_how_many_below, g_how_many_below := g_how_many_below, a_width_numbered := _, d_width_numbered := e_width_numbered, F_width_numbered := F_width_numbered, g_width_numbered := g_width_numbered, a_places_told := _, d_places_told := e_places_told, F_places_told := F_places_told, g_places_told := g_places_told, a_text_of_widths := _, d_text_of_widths := e_text_of_widths, F_text_of_widths := F_text_of_widths, g_text_of_widths := g_text_of_widths, a_figures_of := _, d_figures_of := e_figures_of, F_figures_of := F_figures_of, g_figures_of := g_figures_of, a_widths_of_text := _, d_widths_of_text := e_widths_of_text, F_widths_of_text := F_widths_of_text, g_widths_of_text := g_widths_of_text, a_law_hash := _, d_law_hash := e_law_hash, F_law_hash := F_law_hash, g_law_hash := g_law_hash, a_law_random := _, d_law_random := e_law_random, F_law_random := F_law_random, g_law_random := g_law_random, a_law_cell := _, d_law_cell := e_law_cell, F_law_cell := F_law_cell, g_law_cell := g_law_cell, a_law_generator := _, d_law_generator := e_law_generator, F_law_generator := F_law_generator, g_law_generator := g_law_generator, a_law_item := _, d_law_item := e_law_item, F_law_item := F_law_item, g_law_item := g_law_item, a_law_plain := _, d_law_plain := e_law_plain, F_law_plain := F_law_plain, g_law_plain := g_law_plain, a_law_set := _, d_law_set := e_law_set, F_law_set := F_law_set, g_law_set := g_law_set, a_law_first := _, d_law_first := e_law_first, F_law_first := F_law_first, g_law_first := g_law_first, a_law_below := _, d_law_below := e_law_below, F_law_below := F_law_below, g_law_below := g_law_below, a_law_text := _, d_law_text := e_law_text, F_law_text := F_law_text, g_law_text := g_law_text, a_law_right := _, d_law_right := e_law_right, F_law_right := F_law_right, g_law_right := g_law_right, a_law := _, d_law := e_law, F_law := F_law, g_law := g_law, z_all := He.free_ok X G (c.fact 32 (f := .free "all") rfl), z_any := He.free_ok X G (c.fact 33 (f := .free "any") rfl), z_bool := He.free_ok X G (c.fact 34 (f := .free "bool") rfl), z_divmod := He.free_ok X G (c.fact 35 (f := .free "divmod") rfl), z_enumerate := He.free_ok X G (c.fact 36 (f := .free "enumerate") rfl), z_int := He.free_ok X G (c.fact 37 (f := .free "int") rfl), z_isinstance := He.free_ok X G (c.fact 38 (f := .free "isinstance") rfl), z_len := He.free_ok X G (c.fact 39 (f := .free "len") rfl), z_list := He.free_ok X G (c.fact 40 (f := .free "list") rfl), z_max := He.free_ok X G (c.fact 41 (f := .free "max") rfl), z_range := He.free_ok X G (c.fact 42 (f := .free "range") rfl), z_repr := He.free_ok X G (c.fact 43 (f := .free "repr") rfl), z_str := He.free_ok X G (c.fact 44 (f := .free "str") rfl), z_sum := He.free_ok X G (c.fact 45 (f := .free "sum") rfl), z_tuple := He.free_ok X G (c.fact 46 (f := .free "tuple") rfl) }
  have b := FunD.bindsA (ps := ["_law_script"]) F_law fun _ _ _ _ _ _ us hl => match us, hl with | [_], _ => rfl
  exact ⟨e_law, fun s v => b s [v] rfl, fun base _ _ => ok_law T⟩
end K42E
open PySem PySem.W PySem.Calls PyProof.Rows
set_option maxRecDepth 100000 in
set_option maxHeartbeats 0 in
theorem PySem.Challenge.cw_howeverwide_k42_whole_widths_counted_holds : PySem.Challenge.rw_howeverwide_k42_whole_widths_counted.Holds := by
  w_on; o_law
  refine HandSHeadRun.head_any (r := OpenLaw.row PySem.Challenge.rw_howeverwide_k42_whole_widths_counted) (q := view (OpenLaw.row PySem.Challenge.rw_howeverwide_k42_whole_widths_counted).prog [40]) (H := K42E.hk) (ob := K42E.ob) (M := 4000) (loose := K42E.loose) (d := HandSHeadRun.topDef (OpenLaw.row PySem.Challenge.rw_howeverwide_k42_whole_widths_counted).prog 40) (kwd := []) K42E.ob_eq
    (by kernel_rfl) (fun s => by kernel_rfl) K42E.run (by kernel_rfl) (by kernel_rfl) (by kernel_rfl) (by rfl) (by first | assumption | decide +kernel) (by decide +kernel) ⟨rfl, rfl, rfl, rfl, rfl, by decide +kernel⟩ ?hw ?hc
  case hw => w_witness2
  case hc =>
    refine Hw.walkG (l := PySem.Challenge.rw_howeverwide_k42_whole_widths_counted) (n := 63) (k := 7) (x := "_law_script") rfl (by decide) (by kernel_rfl) ⟨rfl, by decide, by decide⟩ ?F
    intro w mg fa h Y G hmg0
    obtain ⟨K, KX, c⟩ := Y
    have hmg : mg ("law" : PySem.Str) = some (.ref fa) := by
      have e : (HandSHeadRun.topDef (OpenLaw.row PySem.Challenge.rw_howeverwide_k42_whole_widths_counted).prog 40).name = ("law" : PySem.Str) := by kernel_rfl
      rw [← e]
      exact hmg0
    obtain ⟨fd, hb, hF⟩ := K42E.facts (P := (PySem.Challenge.rw_howeverwide_k42_whole_widths_counted).prog) (w := w) KX G hmg c
    exact ⟨K, fd, K42.spLaw K, KX, hb, fun H a ns hl _ hS => ⟨a, ns, rfl, hl, hS, fun _ => rfl⟩, hF⟩
