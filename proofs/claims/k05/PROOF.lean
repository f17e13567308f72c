import PyProof.Rows.All
import Wide.All
import OpenK.AllK
import Wide.FinOn
import PyProof.ReprRoads
import HandS.Base
import HandS.Call
import HandS.List
import HandS.Comp
import HandS.Ends
import HandS.Words
import HandS.Wide
import HandS.WideBits
import HandS.IsInst
import HandS.Defaults
import HandS.Flow
import HandS.Walk
import HandS.Codes
import HandS.Conv
import HandS.ForMost
import HandS.TupAny
import HandS.TupLe
import HandS.Dict
import KE.KFromBytes
import HandS.Exc
import HandS.ExcInit
import HandS.ExcField
import KE.KExcIs
import HandS.MakeKw
import HandS.HeadHook1
import HandS.ExcValue
import KE.KEqDict
import HandS.HeadHook2
import PySem.Challenge.RW_howeverwide_k05_errors_by_their_classes
import KE.KStateDown
import Lean
import HandS.Head0
import HandS.Head1
import HandS.Head2
import HandS.HeadEnd
set_option Elab.async false
set_option linter.all false
set_option maxRecDepth 100000
set_option maxHeartbeats 4000000
/-! A layer of ours over HandS: defs whose runs know that no repr stands around them (so that repr of lists may be shown), calls by keywords alone, repr of data, powers. -/
namespace Hw
open PySem PySem.Spec PyProof.Rows L2

/-- no repr is under way -/
abbrev Gd (A : Around) : Prop := A.guards = some []

section
variable (P : Program) (w : World) (K : PySem.W.Frag) (mg : Str → Option Value) (base : Heap) (CX : CXT)
/-- a def's promise where no repr is under way -/
structure FnG (k : Nat) (f : Addr) (fd : FuncData) (ps : List Str) (sp : Sp) : Prop where
  arity : ∀ vs H Q E, sp vs H Q E → vs.length = ps.length
  go : ∀ (A : Around) (outer : List Env) (s : Shared) (H : Hp) (args : Args) (us : List Value) (vs : List V) (Q : VK) (E : XK),
    Gd A → Room k A → Env0 P w K mg base A outer s H → BindsTo s fd args (ps.zip us) → Vals vs us → sp vs H Q E → codeAny (model P w) A (.call (.ref f) args) (CR CX outer P w H s Q E) s
end
section
variable {P : Program} {w : World} {K : PySem.W.Frag} {mg : Str → Option Value} {base : Heap} {CX : CXT}
theorem FnG.up {j k : Nat} {f : Addr} {fd : FuncData} {ps : List Str} {sp : Sp} (F : FnG P w K mg base CX j f fd ps sp) (h : j ≤ k) : FnG P w K mg base CX k f fd ps sp :=
  ⟨F.arity, fun A outer s H args us vs Q E g r => F.go A outer s H args us vs Q E g (r.mono h)⟩
theorem FnG.weak {k : Nat} {f : Addr} {fd : FuncData} {ps : List Str} {sp sp' : Sp} (F : FnG P w K mg base CX k f fd ps sp) (h : ∀ vs H Q E, sp' vs H Q E → sp vs H Q E) : FnG P w K mg base CX k f fd ps sp' :=
  ⟨fun vs H Q E q => F.arity vs H Q E (h _ _ _ _ q), fun A outer s H args us vs Q E g r e b v q => F.go A outer s H args us vs Q E g r e b v (h _ _ _ _ q)⟩
theorem FnG.ofOk {k : Nat} {f : Addr} {fd : FuncData} {ps : List Str} {sp : Sp} (F : FnOk P w K mg base CX k f fd ps sp) : FnG P w K mg base CX k f fd ps sp :=
  ⟨F.len, fun A outer s H args us vs Q E _ => F.run A outer s H args us vs Q E⟩

/-- a def of the text without defaults -/
abbrev DefAt (K : PySem.W.Frag) (x : Str) (st : Stmt) (f : Addr) (fd : FuncData) : Prop := FunD K x x (defArgs st) (defBody st) (defScope st) [] [] f fd

/-- the rule of a def's body, where no repr is under way -/
theorem bodyG {x qual : Str} {params : Arguments} {body : List Stmt} {scope : Scope} {dvs : List V} {kws : List (Str × V)} {f : Addr} {fd : FuncData} {N ps : List Str} {k : Nat} {sp : Sp}
    (F : FunD K x qual params body scope dvs kws f fd) (S : FnScope N ps scope) (ar : ∀ vs H Q E, sp vs H Q E → vs.length = ps.length)
    (hb : ∀ (cdv : Value) (A : Around) (outer : List Env) (s : Shared) (H : Hp) (vs : List V) (Q : VK) (E : XK), Gd (A.deeper (envOfC qual scope s.heap.objs.size f cdv)) → Room k (A.deeper (envOfC qual scope s.heap.objs.size f cdv)) → sp vs H Q E →
      ∃ t, PSs (cxOf CX P w K mg base N qual scope f cdv A outer s H E) body t ∧ t { nx := fun _ H' => Q .non H', rt := Q } (start N vs) H) : FnG P w K mg base CX (k + 1) f fd ps sp := by
  refine ⟨ar, ?_⟩
  intro A outer s H args us vs Q E gd room env bind rel want
  obtain ⟨oc, od, dV, kV, doc, pm, an, cdv, ct, osl, rfl, look, codeIs, -, -⟩ := F.ex
  have inK : K.In s.heap := env.mod.kin.keeps fun b o q => (env.bs b o q).1
  have noLim : s.heap.NoLimit := env.mod.nolimit.keeps fun b o q => (env.bs b o q).1
  have kinds : ∀ y ∈ ps.zip us, scope.names.lookup y.1 = some .local ∨ (scope.names.lookup y.1 = some .cell ∧ ((cellsFrom (s.heap.objs.size + 1) scope.names []).lookup y.1).isSome = true) := by
    rintro ⟨n, v⟩ hy
    cases S.par n (List.of_mem_zip hy).1 with
    | inl q => exact Or.inl q
    | inr q => exact Or.inr ⟨q, PySem.W.cellsFrom_some _ _ _ (Or.inl q)⟩
  refine codeAny_call_function room.depth (inK _ _ look) rfl S.co S.gen rfl (PySem.W.codeRec_of inK codeIs) (bind _ _ _ _ ?_)
  refine wpAny_newFunctionEnv_cells S.kind kinds ?_
  rintro env' rfl s1 x1
  refine ⟨noLim.keeps x1.toInCall.keep, codeAny_func ?_⟩
  obtain ⟨t, run, done⟩ := hb cdv A outer s H vs Q E gd (room.deeper _) want
  have I := inv_start (CX := CX) (E := E) S room.hd env (ar _ _ _ _ want) rel x1
  refine wpAny_mono (run.run [] s1 (start N vs) H _ I done) ?_ (fun _ _ q => q)
  intro fl s' after
  cases fl with
  | ret u =>
    obtain ⟨v, σ', H', J, rv, q⟩ := after
    exact ⟨v, H', J.os, J.bare, J.base, J.hok, rv, q⟩
  | next =>
    obtain ⟨σ', H', J, q⟩ := after
    exact ⟨V.non, H', J.os, J.bare, J.base, J.hok, rfl, q⟩
  | brk => exact (after.choose_spec.choose_spec.2 : False).elim
  | cont => exact (after.choose_spec.choose_spec.2 : False).elim
/-- the same for a def that lets nothing out -/
theorem bodyG0 {x : Str} {st : Stmt} {f : Addr} {fd : FuncData} {N ps : List Str} {k : Nat} {sp : Sp}
    (F : DefAt K x st f fd) (S : FnScope N ps (defScope st)) (ar : ∀ vs H Q E, sp vs H Q E → vs.length = ps.length)
    (hb : ∀ (cdv : Value) (A : Around) (outer : List Env) (s : Shared) (H : Hp) (vs : List V) (Q : VK) (E : XK), Gd (A.deeper (envOfC x (defScope st) s.heap.objs.size f cdv)) → Room k (A.deeper (envOfC x (defScope st) s.heap.objs.size f cdv)) → sp vs H Q E →
      ∃ t, PSs (cxOf CX0 P w K mg base N x (defScope st) f cdv A outer s H E).nox (defBody st) t ∧ t { nx := fun _ H' => Q .non H', rt := Q } (start N vs) H) : FnG P w K mg base CX0 (k + 1) f fd ps sp :=
  bodyG F S ar fun cdv A outer s H vs Q E gd room want => by
    obtain ⟨t, a, b⟩ := hb cdv A outer s H vs Q E gd room want
    exact ⟨t, a.nox, b⟩
end

section
variable {X : Cx} {CX : CXT} {k : Nat} {f : Addr} {fd : FuncData} {ps ks : List Str} {sp : Sp} {dvs : List V} {ds : List Value} {E : XK} {x : Str} {p pos : Pos} {e : Expr} {es : List Expr} {kws : List Keyword} {t tk : TA}
theorem runG {pins : List (Addr × Obj)} {σ : L2.St} {H : Hp} {s : Shared} {Q : VK} {us0 : List Value} {kw : List (Str × Value)} {us : List Value} {vs : List V} (F : FnG X.prog X.w X.K X.mg X.base CX k f fd ps sp) (gd : Gd X.A) (hr : Room k X.A) (hx : Passes CX X E)
    (I : Inv X pins σ H s) (hb : BindsTo s fd ⟨us0, kw⟩ (ps.zip us)) (r : Vals vs us) (h : sp vs H Q E) : wpAny (model X.prog X.w) X.A (call (.ref f) us0 kw) (EP X pins σ Q) X.xe s := by
  refine wpAny_call (codeAny_mono (F.go X.A X.stack s H ⟨us0, kw⟩ us vs Q E gd hr I.env0 hb r h) ?_)
  intro r s' q
  match r, q with
  | .error e, q => exact hx pins σ H s e s' I q
  | .ok (.ret u), q => exact I.after q
  | .ok .next, q => exact (show False from q).elim
  | .ok .brk, q => exact (show False from q).elim
  | .ok .cont, q => exact (show False from q).elim
/-- f(e, ..) -/
theorem pe_g (F : FnG X.prog X.w X.K X.mg X.base CX k f fd ps sp) (gd : Gd X.A) (hr : Room k X.A) (hg : Gl X x) (hm : X.mg x = some (.ref f)) (hk : PySem.W.keepIn X.K (.ref f) = true) (hb : Binds X.K fd ps ds) (hd : Vals dvs ds) (hx : Passes CX X E)
    (ha : PA X (e :: es) t) (hdb : (x == ("__debug__" : Str)) = false := by decide) (he : starEach (e :: es) X.env = (false, eval e X.env) :: starEach es X.env := by rfl) (hpl : (backTo pos (starEach es X.env)).any (·.1) = false := by rfl) :
    PE X (.Call (.Name x p) (e :: es) [] pos) (tCall sp dvs E t) := by
  constructor
  intro pins s σ H Q I h
  apply wpAny_Call_Name_kw
  refine ld_glob I hg hm (PySem.W.callWith_K (h₀ := X.base) I.ok.mod.kin hk (thn (ha.run pos pins s σ H _ I h) ?_) he hpl) hdb
  rintro us s1 ⟨vs, H1, I1, r, q⟩
  have r2 : Vals (vs ++ dvs) (us ++ ds) := r.append hd
  exact ⟨I1.kIn, runG F gd hr hx I1 (hb s1 us I1.kIn (r2.length.symm.trans (F.arity _ _ _ _ q))) r2 q⟩
/-- f() -/
theorem pe_g0 (F : FnG X.prog X.w X.K X.mg X.base CX k f fd ps sp) (gd : Gd X.A) (hr : Room k X.A) (hg : Gl X x) (hm : X.mg x = some (.ref f)) (hk : PySem.W.keepIn X.K (.ref f) = true) (hb : Binds X.K fd ps ds) (hd : Vals dvs ds) (hx : Passes CX X E)
    (hdb : (x == ("__debug__" : Str)) = false := by decide) : PE X (.Call (.Name x p) [] [] pos) (tCall sp dvs E tNil) := by
  constructor
  intro pins s σ H Q I h
  apply wpAny_Call_Name_kw
  refine ld_glob I hg hm (PySem.W.callWith_K0 I.kIn hk ?_) hdb
  have r2 : Vals ([] ++ dvs) ([] ++ ds) := Vals.append .nil hd
  exact runG (us0 := []) F gd hr hx I (hb s [] I.kIn (r2.length.symm.trans (F.arity _ _ _ _ h))) r2 h
/-- how a call by keywords alone binds: the keywords ks, brought into the parameters' order by g (by gV the values) -/
structure KwB (fd : FuncData) (ps ks : List Str) (g : List Value → List Value) (gV : List V → List V) : Prop where
  to : ∀ (s : Shared) (ws : List Value), ws.length = ks.length → BindsTo s fd ⟨[], ks.zip ws⟩ (ps.zip (g ws))
  rel : ∀ {zs : List V} {ws : List Value}, zs.length = ks.length → Vals zs ws → Vals (gV zs) (g ws)
def tCallW (sp : Sp) (n : Nat) (gV : List V → List V) (E : XK) (tk : TA) : TE := fun σ H Q => tk σ H fun zs H1 => zs.length = n ∧ sp (gV zs) H1 Q E
/-- f(k = v, ..) -/
theorem pe_gk {g : List Value → List Value} {gV : List V → List V} (F : FnG X.prog X.w X.K X.mg X.base CX k f fd ps sp) (gd : Gd X.A) (hr : Room k X.A) (hg : Gl X x) (hm : X.mg x = some (.ref f)) (hk : PySem.W.keepIn X.K (.ref f) = true) (hb : KwB fd ps ks g gV) (hx : Passes CX X E)
    (hkw : PK X kws tk) (hall : (backToKw pos (keywordEach kws X.env)).all (·.1.isSome) = true := by rfl) (hks : (backToKw pos (keywordEach kws X.env)).filterMap (·.1) = ks := by rfl) (hdb : (x == ("__debug__" : Str)) = false := by decide)
    (hpl : ((backTo pos (starEach [] X.env)).any (·.1) || (backToKw pos (keywordEach kws X.env)).any (·.1.isNone)) = false := by rfl) :
    PE X (.Call (.Name x p) [] kws pos) (tCallW sp ks.length gV E tk) := by
  constructor
  intro pins s σ H Q I h
  apply wpAny_Call_Name_kw
  refine ld_glob I hg hm (PySem.W.callWith_KW0 (h₀ := X.base) I.ok.mod.kin hk hall (thn (hkw.run pos pins s σ H _ I h) ?_) hpl) hdb
  rintro ws s1 ⟨zs, H1, I1, rz, l, q⟩
  rw [hks]
  exact ⟨I1.kIn, runG (us0 := []) F gd hr hx I1 (hb.to s1 ws (rz.length.symm.trans l)) (hb.rel l rz) q⟩
end

/-! ### operators -/
def CPowW (i j : Int) : Prop := 0 ≤ j ∧ (Builtin.Int.intBits i : Int) * j ≤ 2 ^ 27
theorem powW_ok {i : Int} {n j : Nat} (h : i.natAbs < 2 ^ n) (hj : n * j ≤ 134217728) : CPowW i (j : Int) := by
  have b := PyProof.Rows.intBits_le h
  refine ⟨Int.natCast_nonneg _, ?_⟩
  have e : (2 : Int) ^ 27 = 134217728 := by decide
  rw [e, ← Int.natCast_mul]
  have c : Builtin.Int.intBits i * j ≤ n * j := Nat.mul_le_mul_right j b
  omega
section
variable {X : Cx}
theorem op_powW : OpR X (binaryOp .Pow) (rI CPowW fun i j => .int (i ^ j.toNat)) := opI fun _ _ _ _ _ _ _ hc q => pow_int hc.1 hc.2 q
end
/-! ### data that may be shown and compared -/
mutual
/-- data without dicts, of numbers of at most 38 figures and plain texts -/
def okD : PyData → Bool
  | .none | .bool _ => true
  | .int i => decide (i.natAbs < 10 ^ 38)
  | .str x => PyData.strOk x && x.cps.toList.all fun c => decide (c < 16 ^ 8)
  | .list xs | .tuple xs => okDs xs
  | .dict _ => false
def okDs : List PyData → Bool
  | [] => true
  | x :: xs => okD x && okDs xs
end
theorem int38 {i : Int} (h : i.natAbs < 10 ^ 38) : i.natAbs.log2 < 1920 :=
  Nat.lt_of_lt_of_le (PySem.Flt.log2_lt_of (k := 127) (by decide) (Nat.lt_of_lt_of_le h (by decide +kernel))) (by decide)
theorem short38 {i : Int} (h : i.natAbs < 10 ^ 38) : (PyData.shown (.int i)).length ≤ 40 := by
  have e := int_text_length_le10 (k := 38) (by decide) h
  show (Str.ofString (toString i)).length ≤ 40
  rw [PySem.ofString_length]
  omega
mutual
theorem okD_all : ∀ d : PyData, okD d = true → d.canLay0 = true ∧ d.showable = true ∧ d.hasDict = false ∧ d.leavesShort 40 = true
  | .none, _ => ⟨by simp only [PyData.canLay0], by simp only [PyData.showable], by simp only [PyData.hasDict], by simp only [PyData.leavesShort]⟩
  | .bool _, _ => ⟨by simp only [PyData.canLay0], by simp only [PyData.showable], by simp only [PyData.hasDict], by simp only [PyData.leavesShort]⟩
  | .int i, h => by
    have h' : i.natAbs < 10 ^ 38 := by simpa only [okD, decide_eq_true_eq] using h
    exact ⟨by simp only [PyData.canLay0], by simp only [PyData.showable, decide_eq_true_eq]; exact int38 h', by simp only [PyData.hasDict], by simp only [PyData.leavesShort, decide_eq_true_eq]; exact short38 h'⟩
  | .str x, h => by
    have h' : PyData.strOk x = true ∧ (x.cps.toList.all fun c => decide (c < 16 ^ 8)) = true := by simpa only [okD, Bool.and_eq_true] using h
    exact ⟨by simp only [PyData.canLay0]; exact h'.1, by simp only [PyData.showable], by simp only [PyData.hasDict], by simp only [PyData.leavesShort]; exact h'.2⟩
  | .list xs, h => by
    obtain ⟨a, b, c, d⟩ := okDs_all xs (by simpa only [okD] using h)
    exact ⟨by simp only [PyData.canLay0]; exact a, by simp only [PyData.showable]; exact b, by simp only [PyData.hasDict]; exact c, by simp only [PyData.leavesShort]; exact d⟩
  | .tuple xs, h => by
    obtain ⟨a, b, c, d⟩ := okDs_all xs (by simpa only [okD] using h)
    exact ⟨by simp only [PyData.canLay0]; exact a, by simp only [PyData.showable]; exact b, by simp only [PyData.hasDict]; exact c, by simp only [PyData.leavesShort]; exact d⟩
  | .dict _, h => by simp only [okD] at h; cases h
theorem okDs_all : ∀ ds : List PyData, okDs ds = true → PyData.canLayAll0 ds = true ∧ PyData.showableAll ds = true ∧ PyData.hasDictAll ds = false ∧ PyData.leavesShortAll 40 ds = true
  | [], _ => ⟨by simp only [PyData.canLayAll0], by simp only [PyData.showableAll], by simp only [PyData.hasDictAll], by simp only [PyData.leavesShortAll]⟩
  | x :: xs, h => by
    have h' : okD x = true ∧ okDs xs = true := by simpa only [okDs, Bool.and_eq_true] using h
    obtain ⟨a, b, c, d⟩ := okD_all x h'.1
    obtain ⟨a2, b2, c2, d2⟩ := okDs_all xs h'.2
    exact ⟨by simp only [PyData.canLayAll0, a, a2, Bool.and_self], by simp only [PyData.showableAll, b, b2, Bool.and_self], by simp only [PyData.hasDictAll, c, c2, Bool.or_self], by simp only [PyData.leavesShortAll, d, d2, Bool.and_self]⟩
end
structure Nice (d : PyData) : Prop where
  ok : okD d = true
  deep : d.depth ≤ 60
  small : d.bulk ≤ 262144
theorem Nice.shaped {d : PyData} (n : Nice d) : SeqAt.shaped d = true := by
  show (d.canLay0 && decide (d.depth ≤ 64)) = true
  rw [(okD_all d n.ok).1, decide_eq_true (show d.depth ≤ 64 by have := n.deep; omega)]
  rfl
theorem Nice.fits {d : PyData} (n : Nice d) : d.shown.length ≤ sizeLine := by
  have h := PyData.shown_le_bulk 40 (by decide) d (okD_all d n.ok).2.2.2
  have k := n.small
  rw [sizeLine_eq]
  omega
theorem Nice.refl {d : PyData} (n : Nice d) : PyData.eqv d d = true := SeqAt.eqv_refl d (okD_all d n.ok).1
theorem Nice.int {i : Int} (h : i.natAbs < 10 ^ 38) : Nice (.int i) := ⟨by simp only [okD, decide_eq_true_eq]; exact h, by simp only [PyData.depth]; omega, by simp only [PyData.bulk]; omega⟩
theorem okDs_map {α : Type} (f : α → PyData) : ∀ l : List α, (∀ x ∈ l, okD (f x) = true) → okDs (l.map f) = true
  | [], _ => by simp only [List.map_nil, okDs]
  | x :: r, h => by
    simp only [List.map_cons, okDs, Bool.and_eq_true]
    exact ⟨h x (List.mem_cons_self ..), okDs_map f r fun y hy => h y (List.mem_cons_of_mem _ hy)⟩
theorem depthAll_le {n : Nat} : ∀ l : List PyData, (∀ x ∈ l, x.depth ≤ n) → PyData.depthAll l ≤ n
  | [], _ => by simp only [PyData.depthAll]; omega
  | x :: r, h => by
    have h1 := h x (List.mem_cons_self ..)
    have h2 := depthAll_le r fun y hy => h y (List.mem_cons_of_mem _ hy)
    simp only [PyData.depthAll]
    omega
theorem bulkAll_le {n : Nat} : ∀ l : List PyData, (∀ x ∈ l, x.bulk ≤ n) → PyData.bulkAll l ≤ l.length * (n + 1)
  | [], _ => by simp only [PyData.bulkAll]; omega
  | x :: r, h => by
    have h1 := h x (List.mem_cons_self ..)
    have h2 := bulkAll_le r fun y hy => h y (List.mem_cons_of_mem _ hy)
    simp only [PyData.bulkAll, List.length_cons]
    rw [Nat.succ_mul]
    omega
theorem Nice.listInt {l : List Int} (h : ∀ x ∈ l, x.natAbs < 10 ^ 38) (hl : l.length ≤ 100000) : Nice (.list (l.map .int)) := by
  refine ⟨?_, ?_, ?_⟩
  · simp only [okD]
    exact okDs_map _ l fun x hx => (Nice.int (h x hx)).ok
  · have := depthAll_le (n := 0) (l.map PyData.int) fun x hx => by
      obtain ⟨i, _, rfl⟩ := List.mem_map.mp hx
      simp only [PyData.depth]; omega
    simp only [PyData.depth]; omega
  · have := bulkAll_le (n := 0) (l.map PyData.int) fun x hx => by
      obtain ⟨i, _, rfl⟩ := List.mem_map.mp hx
      simp only [PyData.bulk]; omega
    simp only [PyData.bulk]
    rw [List.length_map] at this
    omega
theorem dps_int {K : PySem.W.Frag} {H : Hp} : ∀ l : List Int, DpAll K H (l.map V.int) (l.map PyData.int)
  | [] => .nil
  | x :: r => .cons (.int x) (dps_int r)
theorem dp_int {K : PySem.W.Frag} {H : Hp} {a : Addr} {l : List Int} (h : SqL K H a (l.map V.int)) : Dp K H (.ref a) (.list (l.map PyData.int)) := .lst h (dps_int l)
section
variable {X : Cx}
/-- repr of data: its text -/
def rRepr (K : PySem.W.Frag) : List V → Hp → VK → Prop := fun xs H Q => ∃ (x : V) (d : PyData), xs = [x] ∧ Dp K H x d ∧ Nice d ∧ Q (.str d.shown) H
theorem call_reprD (gd : Gd X.A) (hu : X.A.units + 64 < cLine) : CallR X (.builtin "repr") (rRepr X.K) := by
  intro pins s σ H xs us Q I r h
  obtain ⟨x, d, rfl, dp, nice, q⟩ := h
  obtain ⟨_, sh, nd, _⟩ := okD_all d nice.ok
  have sz := nice.fits
  have dep := nice.deep
  obtain ⟨u, rfl, ru⟩ := vals1 r
  obtain ⟨as, rd⟩ := Dp.reads I d x u dp ru
  have hsm : d.hasDict = true → sysModules ∉ as := fun e => by rw [nd] at e; cases e
  cases dp with
  | non => cases (show u = Value.none from ru); exact PySem.P.repr_of_none ⟨.str _, H, I.tok _, ⟨_, rfl⟩, q⟩
  | bl b => cases (show u = Value.bool b from ru); exact PySem.P.repr_of_bool ⟨.str _, H, I.tok _, ⟨_, rfl⟩, by simpa only [PyData.shown] using q⟩
  | int i => obtain ⟨t, rfl⟩ := ru; exact PySem.P.repr_of_int (by simpa only [PyData.showable, decide_eq_true_eq] using sh) ⟨.str _, H, I.tok _, ⟨_, rfl⟩, by simpa only [PyData.shown] using q⟩
  | str z => obtain ⟨t, rfl⟩ := ru; exact PySem.P.repr_of_str ⟨.str _, H, I.tok _, ⟨_, rfl⟩, by simpa only [PyData.shown] using q⟩ (by simpa only [PyData.shown] using sz)
  | @lst a xs ds e1 e2 =>
    cases (show u = Value.ref a from ru)
    exact repr_of_reads' rd sh hsm gd (by omega) (fun _ _ e => e) (fun h' u tk hk => ⟨.str _, H, I.kept hk, ⟨_, rfl⟩, q⟩) sz
  | @tup a xs ds e1 e2 =>
    cases (show u = Value.ref a from ru)
    exact repr_of_reads' rd sh hsm gd (by omega) (fun _ _ e => e) (fun h' u tk hk => ⟨.str _, H, I.kept hk, ⟨_, rfl⟩, q⟩) sz
end
/-! ### heaps -/
/-- all but what stands at a is as it was -/
def SameX (a : Addr) (H H' : Hp) : Prop := ∀ b o, b ≠ a → H b = some o → H' b = some o
theorem SameX.refl (a : Addr) (H : Hp) : SameX a H H := fun _ _ _ h => h
theorem SameX.of {a : Addr} {H H' : Hp} (e : Same H H') : SameX a H H' := fun b o _ h => e b o h
theorem SameX.trans {a : Addr} {H H1 H2 : Hp} (e : SameX a H H1) (f : SameX a H1 H2) : SameX a H H2 := fun b o n h => f b o n (e b o n h)
theorem SameX.upd {a : Addr} {H : Hp} {o : HO} : SameX a H (upd H a o) := fun b x n h => by rw [upd_ne n]; exact h
/-- what was there before a was made -/
theorem SameX.same {a : Addr} {H0 H H' : Hp} (e : SameX a H H') (s : Same H0 H) (n : H0 a = none) : Same H0 H' := fun b o h => e b o (ne_of_none h n) (s b o h)
theorem same_new' {H : Hp} {p : Addr} {o : HO} (h : H p = none) : Same H (upd H p o) := fun b x e => by
  rw [upd_ne (ne_of_none e h)]
  exact e
/-! ### tests -/
/-- a comprehension without a test keeps each item -/
theorem yes_if {σ : L2.St} {H : Hp} {A B : Hp → Prop} (h : A H) : tYes σ H fun b H3 => if b = true then A H3 else B H3 := by
  show if true = true then A H else B H
  exact iteT h

/-! ### the law's own call -/
section
variable {P : Program} {w : World} {K : PySem.W.Frag} {mg mb : Str → Option Value} {CX : CXT} {k : Nat} {fa a : Addr} {fd : FuncData} {x : Str} {sp : Sp} {st : Shared} {its : List Value} {ns : List Int}
/-- the call over an abstract heap that tracks nothing but (perhaps) the script -/
theorem lawG_at {H : Hp} (inK : K.In st.heap) (globals : st.heap.Ns mainGlobals mg) (blt : st.heap.Ns builtinsNs mb) (bltIs : ∀ x : Str, x ≠ "__name__" → mb x = bootBuiltins x) (noLim : st.heap.NoLimit) (noGen : st.gens = #[])
    (lst : st.heap.get? a = some { cls := .type "list", data := .seq its.toArray }) (room : Room k callerA)
    (F : ∀ base : Heap, K.In base → base.Ns mainGlobals mg → FnG P w K mg base CX k fa fd [x] sp) (binds : ∀ (s : Shared) (u : Value), BindsTo s fd ⟨[u], []⟩ [(x, u)])
    (want : sp [.ref a] H (fun v _ => v = .bl true) fun _ _ _ => False) (noEx : ∀ e s', CX [] H st (fun _ _ _ => False) e s' → False)
    (only : Only H) (held : HOk P w H st.heap) (atA : ∀ b, H b ≠ none → b = a) (notK : H a ≠ none → K.lookup a = none) :
    codeAny (model P w) callerA (.call (.ref fa) ⟨[.ref a], []⟩) (fun r s' => r = .ok (.ret (.bool true)) ∧ OldK st.heap s'.heap ∧ s'.os = st.os ∧ AllBare s'.gens) st := by
  have dicts : ∀ {b : Addr} {m : Str → Option Value}, st.heap.Ns b m → (hidT st.heap H).Ns b m := by
    rintro b m ⟨o, es, ep, q, d, rest⟩
    refine ⟨o, es, ep, hidT_get q ?_, d, rest⟩
    cases z : H b with
    | none => rfl
    | some u =>
      have eb := atA b (by rw [z]; exact Option.some_ne_none u)
      rw [eb, lst] at q
      have eo := Option.some.inj q
      rw [← eo] at d
      exact (nomatch (show Data.seq its.toArray _ = Data.dict es ep from d))
  have baseK : K.In (hidT st.heap H) := by
    intro b o q
    refine hidT_get (inK b o q) ?_
    cases z : H b with
    | none => rfl
    | some u =>
      have ne : H b ≠ none := by rw [z]; exact Option.some_ne_none u
      have eb := atA b ne
      subst eb
      rw [notK ne] at q
      exact nomatch q
  obtain ⟨mc, l1, l2⟩ := noLim
  have env : Env0 P w K mg (hidT st.heap H) callerA [] st H :=
    { frames := rfl, mod := { kin := baseK, glob := dicts globals, blt := ⟨mb, dicts blt, bltIs⟩, nolimit := ⟨mc, dicts l1, l2⟩ }, bs := fun b o q => of_hidT q,
      bsz := Nat.le_of_eq (hidT_size _ _), funs := trivial, frf := fun b z => (nomatch z), hok := held, bare := .of_eq noGen }
  refine codeAny_mono ((F _ baseK (dicts globals)).go callerA [] st H ⟨[.ref a], []⟩ [.ref a] [.ref a] _ _ rfl room env (binds st (.ref a)) (.cons rfl .nil) want) ?_
  intro r s' q
  match r, q with
  | .error e, q => exact (noEx e s' q).elim
  | .ok .next, q => exact (show False from q).elim
  | .ok .brk, q => exact (show False from q).elim
  | .ok .cont, q => exact (show False from q).elim
  | .ok (.ret u), ⟨v, H', eos, bare, un, held', rv, ev⟩ =>
    have ev' : v = .bl true := ev
    subst ev'
    cases (show u = Value.bool true from rv)
    refine ⟨rfl, OldK.of_keep ?_, eos, bare⟩
    intro b o q
    cases z : H b with
    | none => exact un.keep b o q z (fun y => nomatch y) (fun y => nomatch y)
    | some u =>
      obtain y | ⟨ob, xs, y⟩ := only b
      · rw [z] at y
        exact nomatch y
      · have q1 := (held b _ y).1
        have q2 := (held' b _ (un.frzs b ob _ y)).1
        rw [q] at q1
        rw [Option.some.inj q1]
        exact q2
theorem lawG (inK : K.In st.heap) (globals : st.heap.Ns mainGlobals mg) (blt : st.heap.Ns builtinsNs mb) (bltIs : ∀ x : Str, x ≠ "__name__" → mb x = bootBuiltins x) (noLim : st.heap.NoLimit) (noGen : st.gens = #[])
    (lst : st.heap.get? a = some { cls := .type "list", data := .seq its.toArray }) (areInts : IntsAre its ns) (len : ns.length ≤ sizeLine) (room : Room k callerA)
    (F : ∀ base : Heap, K.In base → base.Ns mainGlobals mg → FnG P w K mg base CX k fa fd [x] sp) (binds : ∀ (s : Shared) (u : Value), BindsTo s fd ⟨[u], []⟩ [(x, u)])
    (want : ∀ H : Hp, Only H → SqL K H a (ns.map V.int) → sp [.ref a] H (fun v _ => v = .bl true) fun _ _ _ => False) (noEx : ∀ H e s', CX [] H st (fun _ _ _ => False) e s' → False) :
    codeAny (model P w) callerA (.call (.ref fa) ⟨[.ref a], []⟩) (fun r s' => r = .ok (.ret (.bool true)) ∧ OldK st.heap s'.heap ∧ s'.os = st.os ∧ AllBare s'.gens) st := by
  have rel := vals_ints areInts
  cases z : K.lookup a with
  | some o =>
    have q := inK a o z
    rw [lst] at q
    have eo := Option.some.inj q
    subst eo
    have only : Only (fun _ => none) := fun _ => Or.inl rfl
    have sq : SqL K (fun _ => none) a (ns.map V.int) := Or.inr ⟨_, its.toArray, _, z, rfl, rfl, rfl, by rw [List.size_toArray, areInts.length]; exact len, rel⟩
    exact lawG_at inK globals blt bltIs noLim noGen lst room F binds (want _ only sq) (noEx _) only (fun b u y => nomatch (show none = some u from y)) (fun b y => (y rfl).elim) (fun y => (y rfl).elim)
  | none =>
    let H : Hp := upd (fun _ => none) a (.frz { cls := .type "list", data := .seq its.toArray } (.lst (ns.map V.int)))
    have at1 : H a = some (.frz { cls := .type "list", data := .seq its.toArray } (.lst (ns.map V.int))) := upd_same
    have off : ∀ b, b ≠ a → H b = none := fun b hb => upd_ne hb
    have only : Only H := by
      intro b
      by_cases hb : b = a
      · rw [hb]
        exact Or.inr ⟨_, _, at1⟩
      · exact Or.inl (off b hb)
    have only1 : ∀ b, H b ≠ none → b = a := by
      intro b y
      by_cases hb : b = a
      · exact hb
      · exact (y (off b hb)).elim
    have held : HOk P w H st.heap := by
      intro b u y
      have hb : b = a := only1 b (by rw [y]; exact Option.some_ne_none u)
      subst hb
      rw [at1] at y
      rw [← Option.some.inj y]
      exact ⟨lst, by rw [List.length_map]; exact len, its, _, rel, lst⟩
    exact lawG_at inK globals blt bltIs noLim noGen lst room F binds (want _ only (Or.inl (Or.inr ⟨_, at1⟩))) (noEx _) only held only1 fun _ => z
end
/-- a law: what the head leaves, from the law's promise -/
theorem walkG {l : PySem.W.OpenLaw} {n k : Nat} {q : Program} {loose : List Str} {XP : (Str → Option Value) → Heap → Prop} {YP : World → Heap → Prop} {d : DefRec} {x : Str}
    (most : l.most = some n) (small : n ≤ sizeLine) (plain : d.params.defaults = []) (room : Room k callerA)
    (F : ∀ (w : World) (mg : Str → Option Value) (fa : Addr) (h : Heap), YP w h → h.Ns mainGlobals mg → mg d.name = some (.ref fa) →
      ∃ (K : PySem.W.Frag) (fd : FuncData) (sp : Sp), K.In h ∧ (∀ (s : Shared) (u : Value), BindsTo s fd ⟨[u], []⟩ [(x, u)]) ∧
        (∀ (H : Hp) (a : Addr) (ns : List Int), ns.length ≤ n → Only H → SqL K H a (ns.map V.int) → sp [.ref a] H (fun v _ => v = .bl true) fun _ _ _ => False) ∧
        ∀ base : Heap, K.In base → base.Ns mainGlobals mg → FnG l.prog w K mg base CX0 k fa fd [x] sp) :
    PySem.W.WalkO q loose XP YP l.row.toRowW d [] (fun f vs => PySem.call f vs) := by
  apply Att.attach_call most plain
  intro w s0 s1 mg mb fa o pm cd doc a vs ns G Y _ _ _ gl lst areInts len gens
  obtain ⟨K, fd, sp, inK, binds, want, run⟩ := F w mg fa _ Y G.T.g gl
  exact lawG inK G.T.g G.T.b G.T.builtins G.T.nolimit gens lst areInts (Nat.le_trans len small) room run binds (fun H o s => want H a ns len o s) fun _ _ _ y => y.elim
end Hw

set_option Elab.async false
set_option linter.all false
set_option maxRecDepth 100000
set_option maxHeartbeats 4000000
/-! data that stands in tracked lists, tuples, dicts -/
namespace Hw
open PySem PySem.Spec PyProof.Rows L2
mutual
inductive Dt (H : Hp) : V → PyData → Prop
  | non : Dt H .non .none
  | bl (b : Bool) : Dt H (.bl b) (.bool b)
  | int (i : Int) : Dt H (.int i) (.int i)
  | str (x : Str) : Dt H (.str x) (.str x)
  | lst {a : Addr} {xs : List V} {ds : List PyData} : H a = some (.lst xs) → DtAll H xs ds → Dt H (.ref a) (.list ds)
  | tup {a : Addr} {xs : List V} {ds : List PyData} : H a = some (.tup xs) → DtAll H xs ds → Dt H (.ref a) (.tuple ds)
  | dic {a : Addr} (kvs : List (Str × Int)) : H a = some (.dK (kvs.map fun p => (.inr p.1, .int p.2))) → Dt H (.ref a) (.dict (kvs.map fun p => (.str p.1, .int p.2)))
inductive DtAll (H : Hp) : List V → List PyData → Prop
  | nil : DtAll H [] []
  | cons {v : V} {vs : List V} {d : PyData} {ds : List PyData} : Dt H v d → DtAll H vs ds → DtAll H (v :: vs) (d :: ds)
end
mutual
theorem Dt.same {H H' : Hp} (e : Same H H') : ∀ (d : PyData) (v : V), Dt H v d → Dt H' v d
  | .none, _, h => by cases h; exact .non
  | .bool b, _, h => by cases h; exact .bl b
  | .int i, _, h => by cases h; exact .int i
  | .str x, _, h => by cases h; exact .str x
  | .list ds, _, h => by
    cases h with
    | lst hs ha => exact .lst (e _ _ hs) (DtAll.same e ds _ ha)
  | .tuple ds, _, h => by
    cases h with
    | tup hs ha => exact .tup (e _ _ hs) (DtAll.same e ds _ ha)
  | .dict ds, _, h => by
    cases h with
    | dic kvs hs => exact .dic kvs (e _ _ hs)
theorem DtAll.same {H H' : Hp} (e : Same H H') : ∀ (ds : List PyData) (vs : List V), DtAll H vs ds → DtAll H' vs ds
  | [], _, h => by cases h; exact .nil
  | d :: ds, _, h => by
    cases h with
    | cons h1 h2 => exact .cons (Dt.same e d _ h1) (DtAll.same e ds _ h2)
end
theorem Dt.to {H H' : Hp} {v : V} {d : PyData} (h : Dt H v d) (e : Same H H') : Dt H' v d := Dt.same e d v h
theorem DtAll.to {H H' : Hp} {v : List V} {d : List PyData} (h : DtAll H v d) (e : Same H H') : DtAll H' v d := DtAll.same e d v h
/-- a write at a place that held nothing of the data -/
theorem Dt.toX {a : Addr} {H H' : Hp} (e : SameX a H H') (H0 : Hp) (s : Same H0 H) (n : H0 a = none) {v : V} {d : PyData} (h : Dt H0 v d) : Dt H' v d := h.to (e.same s n)
theorem DtAll.len {H : Hp} : ∀ {vs : List V} {ds : List PyData}, DtAll H vs ds → vs.length = ds.length
  | _, _, .nil => rfl
  | _, _, .cons _ r => by rw [List.length_cons, List.length_cons, r.len]
theorem DtAll.get {H : Hp} : ∀ {vs : List V} {ds : List PyData}, DtAll H vs ds → ∀ (i : Nat) (v : V), vs[i]? = some v → ∃ d, ds[i]? = some d ∧ Dt H v d
  | _, _, .nil, i, v, h => by simp at h
  | _, _, .cons h1 r, 0, v, h => by
    have e := Option.some.inj (show some _ = some v from h)
    subst e
    exact ⟨_, rfl, h1⟩
  | _, _, .cons _ r, i + 1, v, h => r.get i v h
theorem DtAll.app {H : Hp} : ∀ {vs : List V} {ds : List PyData} {ws : List V} {es : List PyData}, DtAll H vs ds → DtAll H ws es → DtAll H (vs ++ ws) (ds ++ es)
  | _, _, _, _, .nil, k => k
  | _, _, _, _, .cons h r, k => .cons h (r.app k)
theorem DtAll.one {H : Hp} {v : V} {d : PyData} (h : Dt H v d) : DtAll H [v] [d] := .cons h .nil
theorem DtAll.ints {H : Hp} : ∀ l : List Int, DtAll H (l.map V.int) (l.map PyData.int)
  | [] => .nil
  | x :: r => .cons (.int x) (DtAll.ints r)
theorem DtAll.bls {H : Hp} : ∀ l : List Bool, DtAll H (l.map V.bl) (l.map PyData.bool)
  | [] => .nil
  | x :: r => .cons (.bl x) (DtAll.bls r)
theorem Dt.ints {H : Hp} {a : Addr} {l : List Int} (h : H a = some (.lst (l.map V.int))) : Dt H (.ref a) (.list (l.map PyData.int)) := .lst h (DtAll.ints l)
theorem readsKV {h : Heap} {P : Program} {w : World} : ∀ (kvs : List (Str × Int)) (vs : List (Key × Value)) (es : List DictEntry), KV (kvs.map fun p => ((.inr p.1 : Key), V.int p.2)) vs → PySem.Pairs (mixKind P w) es vs →
    ReadsAll h (es.map (·.key)) ((kvs.map fun p => (PyData.str p.1, PyData.int p.2)).map (·.1)) [] ∧ ReadsAll h (es.map (·.val)) ((kvs.map fun p => (PyData.str p.1, PyData.int p.2)).map (·.2)) []
  | [], _, _, .nil, .nil => ⟨.nil, .nil⟩
  | p :: r, _, _, .cons h1 t1, .cons f1 f2 t2 => by
    obtain ⟨a, b⟩ := readsKV (h := h) r _ _ t1 t2
    obtain ⟨e1, e2⟩ := h1
    skip
    skip
    obtain ⟨t, ht⟩ := e2
    constructor
    · refine ReadsAll.cons (as := []) (bs := []) ?_ a
      rw [← e1] at f1
      have f1 : keyIs (.inr p.1) _ = true := f1
      rcases keyIs_shape f1 with ⟨i, t, z, q⟩ | ⟨x, t, z, q⟩
      · cases z
      · dsimp only
        rw [q]
        cases z
        exact .str _ _
    · refine ReadsAll.cons (as := []) (bs := []) ?_ b
      dsimp only
      rw [f2, ht]
      exact .int _ _
section
variable {X : Cx} {pins : List (Addr × Obj)} {σ : L2.St} {H : Hp} {s : Shared}
mutual
theorem Dt.reads (I : Inv X pins σ H s) : ∀ (d : PyData) (v : V) (u : Value), Dt H v d → RelV v u → ∃ as, Reads s.heap u d as ∧ ((∃ kvs, d = .dict kvs) → sysModules ∉ as)
  | .none, _, _, h, r => by
    cases h
    cases r
    exact ⟨_, Reads.none, fun ⟨_, z⟩ => nomatch z⟩
  | .bool b, _, _, h, r => by
    cases h
    cases r
    exact ⟨_, Reads.bool b, fun ⟨_, z⟩ => nomatch z⟩
  | .int i, _, _, h, r => by
    cases h
    obtain ⟨t, rfl⟩ := r
    exact ⟨_, Reads.int i t, fun ⟨_, z⟩ => nomatch z⟩
  | .str x, _, _, h, r => by
    cases h
    obtain ⟨t, rfl⟩ := r
    exact ⟨_, Reads.str x t, fun ⟨_, z⟩ => nomatch z⟩
  | .list ds, _, _, h, r => by
    cases h with
    | lst hs ha =>
      cases r
      obtain ⟨its, rv, ⟨o, n, ho, hc, _, hd⟩, _⟩ := I.list (X := X) (show SqL X.K H _ _ from .inl (.inl hs))
      obtain ⟨as, hr⟩ := Dt.readsAll I ds _ its ha rv
      exact ⟨_, Reads.list ho hc hd hr, fun ⟨_, z⟩ => nomatch z⟩
  | .tuple ds, _, _, h, r => by
    cases h with
    | tup hs ha =>
      cases r
      obtain ⟨its, rv, ⟨o, ho, hc, n, hd⟩, _⟩ := I.tuple (X := X) (show SqT X.K H _ _ from .inl (.inl hs))
      obtain ⟨as, hr⟩ := Dt.readsAll I ds _ its ha rv
      exact ⟨_, Reads.tuple ho hc hd hr, fun ⟨_, z⟩ => nomatch z⟩
  | .dict ds, _, _, h, r => by
    cases h with
    | dic kvs hs =>
      cases r
      obtain ⟨_, ns, vs, kv, o, es, ep, ho, hx, hd, _, pr, _⟩ := dk_of I.hok hs
      obtain ⟨a, b⟩ := readsKV (h := s.heap) kvs vs es.toList kv pr
      refine ⟨_, Reads.dict ho hx.1 hd a b, fun _ z => ?_⟩
      simp only [List.append_nil, List.mem_singleton] at z
      rw [← z] at ns
      simp at ns
theorem Dt.readsAll (I : Inv X pins σ H s) : ∀ (ds : List PyData) (vs : List V) (us : List Value), DtAll H vs ds → Vals vs us → ∃ as, ReadsAll s.heap us ds as
  | [], _, _, h, r => by
    cases h
    cases r
    exact ⟨_, ReadsAll.nil⟩
  | d :: ds, _, _, h, r => by
    cases h with
    | cons h1 h2 =>
      cases r with
      | cons r1 r2 =>
        obtain ⟨as, q1, _⟩ := Dt.reads I d _ _ h1 r1
        obtain ⟨bs, q2⟩ := Dt.readsAll I ds _ _ h2 r2
        exact ⟨_, ReadsAll.cons q1 q2⟩
end
end
section
variable {X : Cx}
def rEqT : R2 := fun x y H Q => ∃ d e, Dt H x d ∧ Dt H y e ∧ SeqAt.shaped d = true ∧ SeqAt.shaped e = true ∧ Q (.bl (PyData.eqv d e)) H
def rNeT : R2 := fun x y H Q => ∃ d e, Dt H x d ∧ Dt H y e ∧ SeqAt.shaped d = true ∧ SeqAt.shaped e = true ∧ Q (.bl (!PyData.eqv d e)) H
theorem op_eqT (hu : X.A.units + 64 < cLine) : OpR X (compareOp .Eq) rEqT := by
  intro pins s σ H x y v u Q I rx ry h
  obtain ⟨d, e, hd, he, sd, se, q⟩ := h
  obtain ⟨as, r1, _⟩ := Dt.reads I d x v hd rx
  obtain ⟨bs, r2, _⟩ := Dt.reads I e y u he ry
  exact SeqAt.compareEq_shaped r1 r2 sd se hu ⟨.bl _, H, I, rfl, q⟩
theorem op_neT (hu : X.A.units + 64 < cLine) : OpR X (compareOp .NotEq) rNeT := by
  intro pins s σ H x y v u Q I rx ry h
  obtain ⟨d, e, hd, he, sd, se, q⟩ := h
  obtain ⟨as, r1, _⟩ := Dt.reads I d x v hd rx
  obtain ⟨bs, r2, _⟩ := Dt.reads I e y u he ry
  exact SeqAt.compareNe_shaped r1 r2 sd se hu ⟨.bl _, H, I, rfl, q⟩
/-- data whose repr can be told -/
structure Shows (d : PyData) : Prop where
  show_ : d.showable = true
  fits : d.shown.length ≤ sizeLine
  deep : d.depth ≤ 60
  top : d.hasDict = true → ∃ kvs, d = .dict kvs
theorem Nice.shows {d : PyData} (n : Nice d) : Shows d := ⟨(okD_all d n.ok).2.1, n.fits, n.deep, fun z => by rw [(okD_all d n.ok).2.2.1] at z; cases z⟩
theorem shows_empty : Shows (.dict []) := ⟨by decide +kernel, by rw [sizeLine_eq]; decide +kernel, by decide +kernel, fun _ => ⟨_, rfl⟩⟩
/-- repr of data: its text -/
def rReprT : List V → Hp → VK → Prop := fun xs H Q => ∃ (x : V) (d : PyData), xs = [x] ∧ Dt H x d ∧ Shows d ∧ Q (.str d.shown) H
theorem call_reprT (gd : Gd X.A) (hu : X.A.units + 64 < cLine) : CallR X (.builtin "repr") rReprT := by
  intro pins s σ H xs us Q I r h
  obtain ⟨x, d, rfl, dp, nice, q⟩ := h
  have sh := nice.show_
  have sz := nice.fits
  have dep := nice.deep
  obtain ⟨u, rfl, ru⟩ := vals1 r
  obtain ⟨as, rd, nm⟩ := Dt.reads I d x u dp ru
  have hsm : d.hasDict = true → sysModules ∉ as := fun e => nm (nice.top e)
  cases dp with
  | non => cases (show u = Value.none from ru); exact PySem.P.repr_of_none ⟨.str _, H, I.tok _, ⟨_, rfl⟩, q⟩
  | bl b => cases (show u = Value.bool b from ru); exact PySem.P.repr_of_bool ⟨.str _, H, I.tok _, ⟨_, rfl⟩, by simpa only [PyData.shown] using q⟩
  | int i => obtain ⟨t, rfl⟩ := ru; exact PySem.P.repr_of_int (by simpa only [PyData.showable, decide_eq_true_eq] using sh) ⟨.str _, H, I.tok _, ⟨_, rfl⟩, by simpa only [PyData.shown] using q⟩
  | str z => obtain ⟨t, rfl⟩ := ru; exact PySem.P.repr_of_str ⟨.str _, H, I.tok _, ⟨_, rfl⟩, by simpa only [PyData.shown] using q⟩ (by simpa only [PyData.shown] using sz)
  | @lst a xs ds e1 e2 =>
    cases (show u = Value.ref a from ru)
    exact repr_of_reads' rd sh hsm gd (by omega) (fun _ _ e => e) (fun h' u tk hk => ⟨.str _, H, I.kept hk, ⟨_, rfl⟩, q⟩) sz
  | @tup a xs ds e1 e2 =>
    cases (show u = Value.ref a from ru)
    exact repr_of_reads' rd sh hsm gd (by omega) (fun _ _ e => e) (fun h' u tk hk => ⟨.str _, H, I.kept hk, ⟨_, rfl⟩, q⟩) sz
  | @dic a kvs e1 =>
    cases (show u = Value.ref a from ru)
    exact repr_of_reads' rd sh hsm gd (by omega) (fun _ _ e => e) (fun h' u tk hk => ⟨.str _, H, I.kept hk, ⟨_, rfl⟩, q⟩) sz
end
/-! ### what kind data is of -/
def tyN : PyData → String
  | .none => "NoneType"
  | .bool _ => "bool"
  | .int _ => "int"
  | .str _ => "str"
  | .list _ => "list"
  | .tuple _ => "tuple"
  | .dict _ => "dict"
def isInt : PyData → Bool | .int _ => true | .bool _ => true | _ => false
def isBool : PyData → Bool | .bool _ => true | _ => false
def isList : PyData → Bool | .list _ => true | _ => false
def isTuple : PyData → Bool | .tuple _ => true | _ => false
def isStr : PyData → Bool | .str _ => true | _ => false
theorem kit_int (d : PyData) : kitB (tyN d) "int" = some (isInt d) := by cases d <;> kernel_rfl
theorem kit_bool (d : PyData) : kitB (tyN d) "bool" = some (isBool d) := by cases d <;> kernel_rfl
theorem kit_list (d : PyData) : kitB (tyN d) "list" = some (isList d) := by cases d <;> kernel_rfl
theorem kit_tuple (d : PyData) : kitB (tyN d) "tuple" = some (isTuple d) := by cases d <;> kernel_rfl
theorem kit_str (d : PyData) : kitB (tyN d) "str" = some (isStr d) := by cases d <;> kernel_rfl
theorem Dt.ty {K : PySem.W.Frag} {H : Hp} {v : V} {d : PyData} (h : Dt H v d) : TyX K H v (.type (tyN d)) := by
  cases h with
  | non => exact .base .non
  | bl b => exact .base (.bl b)
  | int i => exact .base (.int i)
  | str x => exact .base (.str x)
  | lst e _ => exact .base (.lst e)
  | tup e _ => exact .base (.tup e)
  | dic kvs e => exact .base (.dK e)
section
variable {X : Cx}
/-- isinstance(x, T) of data -/
def rIsD : List V → Hp → VK → Prop := fun xs H Q => ∃ (x : V) (d : PyData) (T : String) (b : Bool), xs = [x, .ty T] ∧ Dt H x d ∧ kitB (tyN d) T = some b ∧ Q (.bl b) H
theorem call_isD : CallR X (.builtin "isinstance") rIsD := by
  intro pins s σ H xs us Q I r h
  obtain ⟨x, d, T, b, rfl, hd, hk, q⟩ := h
  exact call_isi pins s σ H _ us Q I r ⟨x, .ty T, _, _, b, rfl, .ty T, hd.ty, kit_ty hk, q⟩
end
/-! ### sizes -/
structure Bnd (k b : Nat) (d : PyData) : Prop where
  ok : okD d = true
  deep : d.depth ≤ k
  small : d.bulk ≤ b
theorem Bnd.nice {k b : Nat} {d : PyData} (h : Bnd k b d) (hk : k ≤ 60) (hb : b ≤ 262144) : Nice d := ⟨h.ok, Nat.le_trans h.deep hk, Nat.le_trans h.small hb⟩
theorem Bnd.up {k b k' b' : Nat} {d : PyData} (h : Bnd k b d) (hk : k ≤ k') (hb : b ≤ b') : Bnd k' b' d := ⟨h.ok, Nat.le_trans h.deep hk, Nat.le_trans h.small hb⟩
theorem Bnd.non {k b : Nat} : Bnd k b .none := ⟨by simp only [okD], by simp only [PyData.depth]; omega, by simp only [PyData.bulk]; omega⟩
theorem Bnd.bl {k b : Nat} (x : Bool) : Bnd k b (.bool x) := ⟨by simp only [okD], by simp only [PyData.depth]; omega, by simp only [PyData.bulk]; omega⟩
theorem Bnd.int {k b : Nat} {i : Int} (h : i.natAbs < 10 ^ 38) : Bnd k b (.int i) := ⟨by simp only [okD, decide_eq_true_eq]; exact h, by simp only [PyData.depth]; omega, by simp only [PyData.bulk]; omega⟩
theorem okDs_of : ∀ l : List PyData, (∀ x ∈ l, okD x = true) → okDs l = true
  | [], _ => by simp only [okDs]
  | x :: r, h => by
    simp only [okDs, Bool.and_eq_true]
    exact ⟨h x (List.mem_cons_self ..), okDs_of r fun y hy => h y (List.mem_cons_of_mem _ hy)⟩
theorem okDs_mem : ∀ l : List PyData, okDs l = true → ∀ x ∈ l, okD x = true
  | [], _, x, hx => by cases hx
  | y :: r, h, x, hx => by
    have h' : okD y = true ∧ okDs r = true := by simpa only [okDs, Bool.and_eq_true] using h
    rcases List.mem_cons.mp hx with e | e
    · rw [e]; exact h'.1
    · exact okDs_mem r h'.2 x e
theorem depthAll_mem : ∀ l : List PyData, ∀ x ∈ l, x.depth ≤ PyData.depthAll l
  | [], x, hx => by cases hx
  | y :: r, x, hx => by
    simp only [PyData.depthAll]
    rcases List.mem_cons.mp hx with e | e
    · rw [e]; omega
    · have := depthAll_mem r x e
      omega
theorem bulkAll_mem : ∀ l : List PyData, ∀ x ∈ l, x.bulk ≤ PyData.bulkAll l
  | [], x, hx => by cases hx
  | y :: r, x, hx => by
    simp only [PyData.bulkAll]
    rcases List.mem_cons.mp hx with e | e
    · rw [e]; omega
    · have := bulkAll_mem r x e
      omega
theorem Bnd.list {k b n c : Nat} {ds : List PyData} (h : ∀ x ∈ ds, Bnd k b x) (hl : ds.length ≤ n) (hc : n * (b + 1) ≤ c) : Bnd (k + 1) c (.list ds) := by
  refine ⟨?_, ?_, ?_⟩
  · simp only [okD]
    exact okDs_of ds fun x hx => (h x hx).ok
  · have := depthAll_le (n := k) ds fun x hx => (h x hx).deep
    simp only [PyData.depth]; omega
  · have := bulkAll_le (n := b) ds fun x hx => (h x hx).small
    have := Nat.mul_le_mul_right (b + 1) hl
    simp only [PyData.bulk]; omega
theorem Bnd.tuple {k b n c : Nat} {ds : List PyData} (h : ∀ x ∈ ds, Bnd k b x) (hl : ds.length ≤ n) (hc : n * (b + 1) ≤ c) : Bnd (k + 1) c (.tuple ds) := by
  refine ⟨?_, ?_, ?_⟩
  · simp only [okD]
    exact okDs_of ds fun x hx => (h x hx).ok
  · have := depthAll_le (n := k) ds fun x hx => (h x hx).deep
    simp only [PyData.depth]; omega
  · have := bulkAll_le (n := b) ds fun x hx => (h x hx).small
    have := Nat.mul_le_mul_right (b + 1) hl
    simp only [PyData.bulk]; omega
theorem Nice.listMem {ds : List PyData} (h : Nice (.list ds)) : ∀ x ∈ ds, Nice x := fun x hx => by
  obtain ⟨a, b, c⟩ := h
  have a' : okDs ds = true := by simpa only [okD] using a
  have e1 := depthAll_mem ds x hx
  have e2 := bulkAll_mem ds x hx
  simp only [PyData.depth] at b
  simp only [PyData.bulk] at c
  exact ⟨okDs_mem ds a' x hx, by omega, by omega⟩
theorem Nice.tupMem {ds : List PyData} (h : Nice (.tuple ds)) : ∀ x ∈ ds, Nice x := fun x hx => by
  obtain ⟨a, b, c⟩ := h
  have a' : okDs ds = true := by simpa only [okD] using a
  have e1 := depthAll_mem ds x hx
  have e2 := bulkAll_mem ds x hx
  simp only [PyData.depth] at b
  simp only [PyData.bulk] at c
  exact ⟨okDs_mem ds a' x hx, by omega, by omega⟩
end Hw
namespace Hw
open PySem PySem.Spec PyProof.Rows L2
/-- a turn of a comprehension: the list so far is f 0, .., f (i - 1) -/
theorem lcS {H1 H' : Hp} {D : Addr} {f : Nat → V} {i : Nat} (hD : H1 D = none) (s : Same H1 H') (e : H' D = some (.lst ((List.range i).map f))) (hz : i ≤ 1000000) :
    ∃ acc, H' D = some (.lst acc) ∧ acc.length < sizeLine ∧ Same H1 (upd H' D (.lst (acc ++ [f i]))) ∧ (upd H' D (.lst (acc ++ [f i]))) D = some (.lst ((List.range (i + 1)).map f)) := by
  refine ⟨_, e, ?_, fun b o hb => ?_, ?_⟩
  · rw [List.length_map, List.length_range, sizeLine_eq]; omega
  · rw [upd_ne (ne_of_none hb hD)]
    exact s b o hb
  · rw [upd_same, List.range_succ, List.map_append]
    rfl
theorem range_get {α : Type} (l : List α) (f : α → V) (g : Nat → V) (h : ∀ i x, l[i]? = some x → g i = f x) : (List.range l.length).map g = l.map f := by
  apply List.ext_getElem?
  intro i
  rw [List.getElem?_map, List.getElem?_map]
  by_cases hi : i < l.length
  · rw [List.getElem?_range hi, List.getElem?_eq_getElem hi]
    exact congrArg some (h i _ (List.getElem?_eq_getElem hi))
  · rw [List.getElem?_eq_none (by rw [List.length_range]; omega), List.getElem?_eq_none (by omega)]
    rfl
/-- the same, told of the list's members -/
theorem range_mem {α : Type} {xs : List V} {l : List α} (f : α → V) (g : Nat → V) (hl : xs.length = l.length) (h : ∀ i x, l[i]? = some x → g i = f x) : (List.range xs.length).map g = l.map f := by
  rw [hl]
  exact range_get l f g h
end Hw
namespace Hw
open PySem PySem.Spec PyProof.Rows L2
/-- the answer about the member at i -/
def atF {α : Type} (l : List α) (g : α → Bool) (i : Nat) : Bool := match l[i]? with
  | some y => g y
  | none => false
theorem atF_at {α : Type} {l : List α} {g : α → Bool} {i : Nat} {y : α} (h : l[i]? = some y) : atF l g i = g y := by
  unfold atF
  rw [h]
theorem all_atF {α : Type} (l : List α) (g : α → Bool) : ((List.range l.length).map (atF l g)).all id = l.all g := by
  rw [Bool.eq_iff_iff, List.all_eq_true, List.all_eq_true]
  constructor
  · intro h y hy
    obtain ⟨i, hi, e⟩ := List.getElem_of_mem hy
    have h2 := h (atF l g i) (List.mem_map.mpr ⟨i, List.mem_range.mpr hi, rfl⟩)
    rw [atF_at (List.getElem?_eq_getElem hi), e] at h2
    exact h2
  · intro h b hb
    obtain ⟨i, hi, rfl⟩ := List.mem_map.mp hb
    have hi := List.mem_range.mp hi
    rw [atF_at (List.getElem?_eq_getElem hi)]
    exact h _ (List.getElem_mem hi)
theorem vi {a b : Int} : decide (V.int a = V.int b) = decide (a = b) := by
  by_cases h : a = b
  · rw [h, decide_eq_true rfl, decide_eq_true rfl]
  · rw [decide_eq_false h, decide_eq_false fun z => h (by cases z; rfl)]
theorem vs_eq {a b : Str} : decide (V.str a = V.str b) = decide (a = b) := by
  by_cases h : a = b
  · rw [h, decide_eq_true rfl, decide_eq_true rfl]
  · rw [decide_eq_false h, decide_eq_false fun z => h (by cases z; rfl)]
theorem shaped_list {fs : List PyData} (h : ∀ x ∈ fs, Nice x) : SeqAt.shaped (.list fs) = true := by
  have h1 : PyData.canLayAll0 fs = true := (okDs_all fs (okDs_of fs fun x hx => (h x hx).ok)).1
  have h2 := depthAll_le (n := 60) fs fun x hx => (h x hx).deep
  have h3 : PyData.canLay0 (.list fs) = true := by simp only [PyData.canLay0]; exact h1
  have h4 : PyData.depth (.list fs) ≤ 64 := by simp only [PyData.depth]; omega
  show (PyData.canLay0 (.list fs) && decide (PyData.depth (.list fs) ≤ 64)) = true
  rw [h3, decide_eq_true h4]
  rfl
theorem eqv_nil (fs : List PyData) : PyData.eqv (.list fs) (.list []) = fs.isEmpty := by cases fs <;> simp [PyData.eqv, PyData.eqvAll]
theorem shaped_nil : SeqAt.shaped (.list []) = true := shaped_list fun x hx => nomatch hx
end Hw

/-! ### the rules with the written part named -/
namespace Hw
open PySem PySem.Spec PyProof.Rows L2
section
variable {X : Cx} {K : PySem.W.Frag}
def rLenK (K : PySem.W.Frag) : List V → Hp → VK → Prop := fun xs H Q => ∃ p ys, xs = [.ref p] ∧ (SqL K H p ys ∨ SqT K H p ys) ∧ Q (.int ys.length) H
theorem call_lenK (h : X.K = K) : CallR X (.builtin "len") (rLenK K) := by subst h; exact call_len_seq
theorem cr_allK (h : X.K = K) (hc : X.calm = true) : CallR X (.builtin "all") (rAll K) := by subst h; exact cr_all hc
theorem cr_sumK (h : X.K = K) (hc : X.calm = true) : CallR X (.builtin "sum") (rSum K) := by subst h; exact cr_sum hc
def rListK (K : PySem.W.Frag) : List V → Hp → VK → Prop := fun xs H Q => ∃ p ys, xs = [.ref p] ∧ (SqL K H p ys ∨ SqT K H p ys) ∧ ∀ l, H l = none → Q (.ref l) (upd H l (.lst ys))
theorem call_listK (h : X.K = K) : CallR X (.type "list") (rListK K) := by subst h; exact call_list_of
def rTupK (K : PySem.W.Frag) : List V → Hp → VK → Prop := fun xs H Q => ∃ p ys, xs = [.ref p] ∧ ((SqL K H p ys ∧ ∀ l, H l = none → Q (.ref l) (upd H l (.tup ys))) ∨ (SqT K H p ys ∧ Q (.ref p) H))
theorem call_tupK (h : X.K = K) : CallR X (.type "tuple") (rTupK K) := by subst h; exact call_tuple_of
theorem ix_listK (h : X.K = K) : IxR X (rIxL K) := by subst h; exact ix_list
theorem ix_tupK (h : X.K = K) : IxR X (rIxT K) := by subst h; exact ix_tup
theorem sl_listK (h : X.K = K) : SlR X (rSlL K) := by subst h; exact sl_list
theorem sl_tupK (h : X.K = K) : SlR X (rSlA K) := by subst h; exact sl_tupA
end
end Hw
namespace Hw
open PySem PySem.Spec PyProof.Rows L2
/-! ### the heap but for one place -/
def off (a : Addr) (H : Hp) : Hp := fun b => if b = a then none else H b
theorem off_ne {a b : Addr} {H : Hp} (h : b ≠ a) : off a H b = H b := if_neg h
theorem off_at {a b : Addr} {H : Hp} {o : HO} (h : off a H b = some o) : b ≠ a ∧ H b = some o := by
  unfold off at h
  by_cases e : b = a
  · rw [if_pos e] at h; cases h
  · rw [if_neg e] at h; exact ⟨e, h⟩
theorem off_same {a : Addr} {H : Hp} : Same (off a H) H := fun _ _ h => (off_at h).2
theorem SameX.off {a : Addr} {H H' : Hp} (e : SameX a H H') : Same (off a H) (off a H') := fun b o h => by
  obtain ⟨n, h⟩ := off_at h
  rw [off_ne n]
  exact e b o n h
theorem off_of {a b : Addr} {H : Hp} {o : HO} (n : b ≠ a) (h : H b = some o) : off a H b = some o := by rw [off_ne n]; exact h
theorem Dt.on {a : Addr} {H : Hp} {v : V} {d : PyData} (h : Dt (off a H) v d) : Dt H v d := h.to off_same
/-! ### lists of numbers -/
abbrev natV (l : List Nat) : List V := l.map fun (x : Nat) => V.int (x : Int)
abbrev natD (l : List Nat) : List PyData := l.map fun (x : Nat) => PyData.int (x : Int)
theorem DtAll.nats {H : Hp} : ∀ l : List Nat, DtAll H (natV l) (natD l)
  | [] => .nil
  | x :: r => .cons (.int x) (DtAll.nats r)
theorem DtAll.nats_inv {H : Hp} : ∀ (l : List Nat) (vs : List V), DtAll H vs (natD l) → vs = natV l
  | [], _, h => by cases h; rfl
  | x :: r, _, h => by
    cases h with
    | cons h1 h2 =>
      cases h1
      rw [DtAll.nats_inv r _ h2]
      rfl
theorem DtAll.bls_inv {H : Hp} : ∀ (l : List Bool) (vs : List V), DtAll H vs (l.map PyData.bool) → vs = l.map V.bl
  | [], _, h => by cases h; rfl
  | x :: r, _, h => by
    cases h with
    | cons h1 h2 =>
      cases h1
      rw [DtAll.bls_inv r _ h2]
      rfl
theorem Dt.nats {H : Hp} {a : Addr} {l : List Nat} (h : H a = some (.lst (natV l))) : Dt H (.ref a) (.list (natD l)) := .lst h (DtAll.nats l)
theorem nat_get {l : List Nat} {i : Nat} {x : V} (h : (natV l)[i]? = some x) : ∃ b : Nat, l[i]? = some b ∧ V.int (b : Int) = x := by
  rw [List.getElem?_map] at h
  exact Option.map_eq_some_iff.mp h
theorem nat_at {l : List Nat} {i b : Nat} (h : l[i]? = some b) : (natV l)[i]? = some (V.int (b : Int)) := by
  rw [List.getElem?_map, h]
  rfl
theorem Bnd.nats {l : List Nat} {n c : Nat} (h : ∀ x ∈ l, x < 10 ^ 38) (hl : l.length ≤ n) (hc : n ≤ c) : Bnd 1 c (.list (natD l)) := by
  refine Bnd.list (k := 0) (b := 0) (n := n) (fun d hd => ?_) (by rw [List.length_map]; exact hl) (by omega)
  obtain ⟨x, hx, rfl⟩ := List.mem_map.mp hd
  exact .int (by have := h x hx; omega)
/-! ### bits in columns -/
def bitN (x p : Nat) : Nat := x / 2 ^ p % 2
def worthN : List Nat → Nat
  | [] => 0
  | b :: r => b + 2 * worthN r
theorem worthN_add : ∀ (l : List Nat) (b : Nat), worthN (l ++ [b]) = worthN l + b * 2 ^ l.length
  | [], b => by show b + 2 * 0 = 0 + b * 1; omega
  | c :: r, b => by
    show c + 2 * worthN (r ++ [b]) = c + 2 * worthN r + b * 2 ^ (r.length + 1)
    rw [worthN_add r b, Nat.pow_succ, Nat.mul_add, ← Nat.mul_assoc b, Nat.mul_comm _ 2]
    omega
theorem worthN_lt : ∀ l : List Nat, (∀ b ∈ l, b < 2) → worthN l < 2 ^ l.length
  | [], _ => by show 0 < 1; omega
  | c :: r, h => by
    have h1 := h c (List.mem_cons_self ..)
    have h2 := worthN_lt r fun b hb => h b (List.mem_cons_of_mem _ hb)
    show c + 2 * worthN r < 2 ^ (r.length + 1)
    rw [Nat.pow_succ]
    omega
theorem bitN_lt (x p : Nat) : bitN x p < 2 := Nat.mod_lt _ (by decide)
theorem bitN_worth : ∀ (l : List Nat) (i : Nat), (∀ b ∈ l, b < 2) → bitN (worthN l) i = l.getD i 0
  | [], i, _ => by
    show 0 / 2 ^ i % 2 = ([] : List Nat).getD i 0
    rw [Nat.zero_div]
    rfl
  | c :: r, 0, h => by
    have h1 := h c (List.mem_cons_self ..)
    show (c + 2 * worthN r) / 2 ^ 0 % 2 = c
    rw [Nat.pow_zero, Nat.div_one]
    omega
  | c :: r, i + 1, h => by
    have h1 := h c (List.mem_cons_self ..)
    have ih := bitN_worth r i fun b hb => h b (List.mem_cons_of_mem _ hb)
    show (c + 2 * worthN r) / 2 ^ (i + 1) % 2 = r.getD i 0
    rw [Nat.pow_succ, Nat.mul_comm (2 ^ i) 2, ← Nat.div_div_eq_div_mul, show (c + 2 * worthN r) / 2 = worthN r by omega]
    exact ih
theorem worthN_bits (x : Nat) : ∀ n : Nat, worthN ((List.range n).map (bitN x)) = x % 2 ^ n
  | 0 => by rw [Nat.pow_zero, Nat.mod_one]; rfl
  | n + 1 => by
    rw [List.range_succ, List.map_append, List.map_cons, List.map_nil, worthN_add, worthN_bits x n, List.length_map, List.length_range, Nat.mod_pow_succ, Nat.mul_comm]; rfl
/-- the p-th bits of all -/
def col (l : List Nat) (p : Nat) : Nat := worthN (l.map fun x => bitN x p)
def tr (n : Nat) (l : List Nat) : List Nat := (List.range n).map (col l)
theorem col_bits (l : List Nat) (p : Nat) : ∀ b ∈ l.map fun x => bitN x p, b < 2 := fun b hb => by
  obtain ⟨x, _, rfl⟩ := List.mem_map.mp hb
  exact bitN_lt x p
theorem col_lt (l : List Nat) (p : Nat) : col l p < 2 ^ l.length := by
  have := worthN_lt _ (col_bits l p)
  rw [List.length_map] at this
  exact this
theorem tr_len (n : Nat) (l : List Nat) : (tr n l).length = n := by unfold tr; rw [List.length_map, List.length_range]
theorem tr_lt {n : Nat} {l : List Nat} : ∀ x ∈ tr n l, x < 2 ^ l.length := fun x hx => by
  obtain ⟨p, _, rfl⟩ := List.mem_map.mp hx
  exact col_lt l p
theorem tr_tr {n : Nat} {l : List Nat} (h : ∀ x ∈ l, x < 2 ^ n) : tr l.length (tr n l) = l := by
  apply List.ext_getElem?
  intro i
  unfold tr
  rw [List.getElem?_map]
  by_cases hi : i < l.length
  · rw [List.getElem?_range hi, List.getElem?_eq_getElem hi]
    show some (col ((List.range n).map (col l)) i) = some l[i]
    unfold col
    rw [List.map_map]
    have e : (List.range n).map ((fun x => bitN x i) ∘ fun p => worthN (l.map fun x => bitN x p)) = (List.range n).map (bitN l[i]) := by
      apply List.map_congr_left
      intro p _
      show bitN (worthN (l.map fun x => bitN x p)) i = bitN l[i] p
      rw [bitN_worth _ _ (col_bits l p), List.getD_eq_getElem?_getD, List.getElem?_map, List.getElem?_eq_getElem hi]
      rfl
    rw [e, worthN_bits, Nat.mod_eq_of_lt (h _ (List.getElem_mem hi))]
  · rw [List.getElem?_eq_none (by rw [List.length_range]; omega), List.getElem?_eq_none (by omega)]
    rfl
theorem col_take {l : List Nat} {i x : Nat} (p : Nat) (h : l[i]? = some x) : col (l.take (i + 1)) p = col (l.take i) p + bitN x p * 2 ^ i := by
  unfold col
  have hi : i < l.length := (List.getElem?_eq_some_iff.mp h).1
  rw [List.take_add_one, h, List.map_append]
  show worthN (_ ++ [bitN x p]) = _
  rw [worthN_add, List.length_map, List.length_take, Nat.min_eq_left (by omega)]
/-! ### tables -/
structure Tb where
  many : Nat
  steps : List (List Nat)
  ends : List Bool
def Tb.d (t : Tb) : PyData := .tuple [.int (t.many : Int), .list (t.steps.map fun l => .list (natD l)), .list (t.ends.map .bool)]
structure Tb.Good (t : Tb) : Prop where
  many : t.many ≤ 6
  some : 0 < t.steps.length
  same : t.ends.length = t.steps.length
  line : ∀ l ∈ t.steps, l.length = 2 ^ t.many
  stand : ∀ l ∈ t.steps, ∀ x ∈ l, x < t.steps.length
def Tb.next (t : Tb) (s c : Nat) : Nat := (t.steps.getD s []).getD c 0
def Tb.behind (t : Tb) (l : List Nat) : Nat := l.foldl t.next 0
theorem Tb.Good.next {t : Tb} (g : t.Good) {s c : Nat} (hs : s < t.steps.length) (hc : c < 2 ^ t.many) : ∃ l, t.steps[s]? = Option.some l ∧ l[c]? = Option.some (t.next s c) ∧ t.next s c < t.steps.length := by
  have e := List.getElem?_eq_getElem hs
  have hl := g.line _ (List.getElem_mem hs)
  have hc' : c < (t.steps[s]).length := by omega
  have e2 := List.getElem?_eq_getElem hc'
  have en : t.next s c = t.steps[s][c] := by
    unfold Tb.next
    rw [List.getD_eq_getElem?_getD, List.getD_eq_getElem?_getD, e, Option.getD_some, e2]
    rfl
  exact ⟨_, e, by rw [en]; exact e2, by rw [en]; exact g.stand _ (List.getElem_mem hs) _ (List.getElem_mem hc')⟩
theorem Tb.Good.behind {t : Tb} (g : t.Good) : ∀ (l : List Nat) (s : Nat), s < t.steps.length → (∀ x ∈ l, x < 2 ^ t.many) → l.foldl t.next s < t.steps.length
  | [], s, hs, _ => hs
  | c :: r, s, hs, h => by
    obtain ⟨_, _, _, h3⟩ := g.next hs (h c (List.mem_cons_self ..))
    exact g.behind r _ h3 fun x hx => h x (List.mem_cons_of_mem _ hx)
theorem Tb.behind_take {t : Tb} {l : List Nat} {i c : Nat} (h : l[i]? = some c) : t.behind (l.take (i + 1)) = t.next (t.behind (l.take i)) c := by
  unfold Tb.behind
  rw [List.take_add_one, h, List.foldl_append]
  rfl
/-- where the table's parts stand -/
theorem Dt.tab {H : Hp} {x : V} {t : Tb} (h : Dt H x t.d) : ∃ (a b c : Addr) (ys : List V), x = .ref a ∧ H a = some (.tup [.int (t.many : Int), .ref b, .ref c]) ∧ H b = some (.lst ys) ∧ ys.length = t.steps.length ∧
    (∀ (i : Nat) (l : List Nat), t.steps[i]? = some l → ∃ r : Addr, ys[i]? = some (V.ref r) ∧ H r = some (.lst (natV l))) ∧ H c = some (.lst (t.ends.map V.bl)) ∧ DtAll H ys (t.steps.map fun l => .list (natD l)) := by
  unfold Tb.d at h
  cases h with
  | @tup a xs ds ha hs =>
  cases hs with
  | cons hm hs =>
  cases hs with
  | cons hst hs =>
  cases hs with
  | cons hen hs =>
  cases hs with
  | nil =>
  cases hm
  cases hst with
  | @lst b ys ss hb hss =>
  cases hen with
  | @lst c zs es hc hes =>
  have e := DtAll.bls_inv _ _ hes
  subst e
  have hl : ys.length = t.steps.length := by rw [hss.len, List.length_map]
  refine ⟨a, b, c, ys, rfl, ha, hb, hl, fun i l hi => ?_, hc, hss⟩
  have il : i < ys.length := by rw [hl]; exact (List.getElem?_eq_some_iff.mp hi).1
  obtain ⟨d, hd, hy⟩ := hss.get i _ (List.getElem?_eq_getElem il)
  rw [List.getElem?_map, hi] at hd
  cases hd
  generalize hz : ys[i] = z at hy
  cases hy with
  | @lst r qs _ hr hq =>
    have e := DtAll.nats_inv _ _ hq
    subst e
    exact ⟨r, by rw [List.getElem?_eq_getElem il, hz], hr⟩
end Hw
namespace Hw
open PySem PySem.Spec PyProof.Rows L2
/-! ### a comprehension with a test -/
def Flt (ds : List PyData) (p : PyData → Bool) (H1 : Hp) (D : Addr) (i : Nat) (H' : Hp) : Prop := Same H1 H' ∧ ∃ vs, H' D = some (.lst vs) ∧ DtAll H1 vs ((ds.take i).filter p) ∧ vs.length ≤ i
theorem Flt.start {ds : List PyData} {p : PyData → Bool} {H1 : Hp} {D : Addr} (hD : H1 D = none) : Flt ds p H1 D 0 (upd H1 D (.lst [])) := ⟨same_new' hD, [], upd_same, .nil, Nat.le_refl _⟩
theorem Flt.keep {ds : List PyData} {p : PyData → Bool} {H1 H' : Hp} {D : Addr} {i : Nat} {d : PyData} {y : V} (f : Flt ds p H1 D i H') (hD : H1 D = none) (hi : ds[i]? = some d) (hp : p d = true) (hy : Dt H1 y d) (hz : i ≤ 1000000) :
    ∃ acc, H' D = some (.lst acc) ∧ acc.length < sizeLine ∧ Flt ds p H1 D (i + 1) (upd H' D (.lst (acc ++ [y]))) := by
  obtain ⟨s, vs, e, hv, hl⟩ := f
  refine ⟨vs, e, by rw [sizeLine_eq]; omega, fun b o hb => ?_, vs ++ [y], upd_same, ?_, by rw [List.length_append]; show vs.length + 1 ≤ i + 1; omega⟩
  · rw [upd_ne (ne_of_none hb hD)]
    exact s b o hb
  · rw [List.take_add_one, hi, List.filter_append]
    refine hv.app ?_
    show DtAll H1 [y] (List.filter p [d])
    rw [List.filter_cons_of_pos hp]
    exact .cons hy .nil
theorem Flt.skip {ds : List PyData} {p : PyData → Bool} {H1 H' : Hp} {D : Addr} {i : Nat} {d : PyData} (f : Flt ds p H1 D i H') (hi : ds[i]? = some d) (hp : p d = false) : Flt ds p H1 D (i + 1) H' := by
  obtain ⟨s, vs, e, hv, hl⟩ := f
  refine ⟨s, vs, e, ?_, by omega⟩
  rw [List.take_add_one, hi, List.filter_append]
  show DtAll H1 vs (_ ++ List.filter p [d])
  rw [List.filter_cons_of_neg (by rw [hp]; exact Bool.false_ne_true), List.filter_nil, List.append_nil]
  exact hv
theorem Flt.done {ds : List PyData} {p : PyData → Bool} {H1 H' : Hp} {D : Addr} {n : Nat} (f : Flt ds p H1 D n H') (hn : n = ds.length) : Same H1 H' ∧ Dt H' (.ref D) (.list (ds.filter p)) := by
  obtain ⟨s, vs, e, hv, hl⟩ := f
  subst hn
  rw [List.take_length] at hv
  exact ⟨s, .lst e (hv.to s)⟩
theorem filter_none {α : Type} (p : α → Bool) : ∀ l : List α, (l.filter fun x => !p x).isEmpty = l.all p
  | [] => rfl
  | x :: r => by
    rw [List.all_cons, ← filter_none p r]
    cases h : p x with
    | true => rw [List.filter_cons_of_neg (by rw [h]; exact Bool.false_ne_true)]; rfl
    | false => rw [List.filter_cons_of_pos (by rw [h]; rfl)]; rfl
/-- .. != [] of such a list -/
theorem ne_nil {H' : Hp} {E : Addr} {x : V} {ds : List PyData} {p : PyData → Bool} {Q : VK} (hx : Dt H' x (.list (ds.filter p))) (hE : H' E = none) (nd : ∀ d ∈ ds, Nice d) (h : Q (.bl (!(ds.filter p).isEmpty)) (upd H' E (.lst []))) : rNeT x (.ref E) (upd H' E (.lst [])) Q := by
  refine ⟨_, .list [], hx.to (same_new' hE), .lst upd_same .nil, shaped_list fun d hd => nd d (List.mem_filter.mp hd).1, shaped_nil, ?_⟩
  rw [eqv_nil]
  exact h
end Hw

set_option Elab.async false
set_option linter.all false
set_option maxRecDepth 100000
set_option maxHeartbeats 4000000
/-! expressions that only lay new data: what they give, without their places -/
namespace Hw
open PySem PySem.Spec PyProof.Rows L2
/-- the heap without some places -/
def offs (l : List Addr) (H : Hp) : Hp := fun b => if b ∈ l then none else H b
theorem offs_at {l : List Addr} {b : Addr} {H : Hp} {o : HO} (h : offs l H b = some o) : b ∉ l ∧ H b = some o := by
  unfold offs at h
  by_cases e : b ∈ l
  · rw [if_pos e] at h; cases h
  · rw [if_neg e] at h; exact ⟨e, h⟩
theorem offs_of {l : List Addr} {b : Addr} {H : Hp} {o : HO} (n : b ∉ l) (h : H b = some o) : offs l H b = some o := by
  unfold offs
  rw [if_neg n]
  exact h
theorem offs_same {l : List Addr} {H : Hp} : Same (offs l H) H := fun _ _ h => (offs_at h).2
theorem offs_mono {l : List Addr} {H H' : Hp} (e : Same H H') : Same (offs l H) (offs l H') := fun b o h => by
  obtain ⟨n, h⟩ := offs_at h
  exact offs_of n (e b o h)
theorem offs_one {a : Addr} {H : Hp} : off a H = offs [a] H := by
  funext b
  unfold off offs
  by_cases h : b = a
  · rw [if_pos h, if_pos (by rw [h]; exact List.mem_singleton.mpr rfl)]
  · rw [if_neg h, if_neg fun z => h (List.mem_singleton.mp z)]
/-- a write at a hidden place -/
theorem offs_upd {l : List Addr} {F : Addr} {H : Hp} {o : HO} (h : F ∈ l) : offs l (upd H F o) = offs l H := by
  funext b
  unfold offs
  by_cases e : b ∈ l
  · rw [if_pos e, if_pos e]
  · rw [if_neg e, if_neg e, upd_ne fun z => e (by rw [z]; exact h)]
/-- what the work rests on: it stays while new things are laid -/
structure Stb (l : List Addr) (S : Hp → Prop) : Prop where
  keep : ∀ H H', S H → Same H H' → S H'
  new : ∀ H p, S H → H p = none → p ∉ l
abbrev Fi := V → Hp → Prop
def Ev (S : Hp → Prop) (φ : Fi) (te : TE) (σ : L2.St) : Prop := ∀ H Q, S H → (∀ x H', Same H H' → φ x H' → Q x H') → te σ H Q
def Eva (S : Hp → Prop) (Φ : List V → Hp → Prop) (ta : TA) (σ : L2.St) : Prop := ∀ H Q, S H → (∀ xs H', Same H H' → Φ xs H' → Q xs H') → ta σ H Q
def Evo (S : Hp → Prop) (to : TO) (σ : L2.St) : Prop := ∀ H (Q : Option Int → Hp → Prop), S H → (∀ x H', Same H H' → Q x H') → to σ H Q
/-- data; a list, a tuple of data; data one by one -/
def D (l : List Addr) (P : PyData → Prop) : Fi := fun x H => ∃ d, Dt (offs l H) x d ∧ P d
def LD (l : List Addr) (P : PyData → Prop) (n : Nat) : Fi := fun x H => ∃ p vs ds, x = .ref p ∧ offs l H p = some (.lst vs) ∧ DtAll (offs l H) vs ds ∧ (∀ d ∈ ds, P d) ∧ ds.length ≤ n
def TD (l : List Addr) (P : PyData → Prop) (n : Nat) : Fi := fun x H => ∃ p vs ds, x = .ref p ∧ offs l H p = some (.tup vs) ∧ DtAll (offs l H) vs ds ∧ (∀ d ∈ ds, P d) ∧ ds.length ≤ n
def AD (l : List Addr) (P : PyData → Prop) (n : Nat) : List V → Hp → Prop := fun xs H => ∃ ds, DtAll (offs l H) xs ds ∧ (∀ d ∈ ds, P d) ∧ ds.length ≤ n
section
variable {l : List Addr} {P : PyData → Prop} {k b n k' b' n' : Nat} {S : Hp → Prop} {σ : L2.St} {K : PySem.W.Frag}
theorem D.same {x : V} {H H' : Hp} (h : D l P x H) (e : Same H H') : D l P x H' := by
  obtain ⟨d, hd, hb⟩ := h
  exact ⟨d, hd.to (offs_mono e), hb⟩
theorem D.up {x : V} {H : Hp} (h : D l (Bnd k b) x H) (hk : k ≤ k') (hb : b ≤ b') : D l (Bnd k' b') x H := by
  obtain ⟨d, hd, h2⟩ := h
  exact ⟨d, hd, h2.up hk hb⟩
theorem LD.same {x : V} {H H' : Hp} (h : LD l P n x H) (e : Same H H') : LD l P n x H' := by
  obtain ⟨p, vs, ds, rfl, h1, h2, h3, h4⟩ := h
  exact ⟨p, vs, ds, rfl, offs_mono e _ _ h1, h2.to (offs_mono e), h3, h4⟩
theorem LD.d {x : V} {H : Hp} (h : LD l (Bnd k b) n x H) : D l (Bnd (k + 1) (n * (b + 1))) x H := by
  obtain ⟨p, vs, ds, rfl, h1, h2, h3, h4⟩ := h
  exact ⟨.list ds, .lst h1 h2, Bnd.list h3 h4 (Nat.le_refl _)⟩
theorem TD.d {x : V} {H : Hp} (h : TD l (Bnd k b) n x H) : D l (Bnd (k + 1) (n * (b + 1))) x H := by
  obtain ⟨p, vs, ds, rfl, h1, h2, h3, h4⟩ := h
  exact ⟨.tuple ds, .tup h1 h2, Bnd.tuple h3 h4 (Nat.le_refl _)⟩
theorem LD.up {x : V} {H : Hp} (h : LD l (Bnd k b) n x H) (hk : k ≤ k') (hb : b ≤ b') (hn : n ≤ n') : LD l (Bnd k' b') n' x H := by
  obtain ⟨p, vs, ds, rfl, h1, h2, h3, h4⟩ := h
  exact ⟨p, vs, ds, rfl, h1, h2, fun d hd => (h3 d hd).up hk hb, by omega⟩
theorem Ev.mono {φ ψ : Fi} {te : TE} (h : Ev S φ te σ) (m : ∀ x H, φ x H → ψ x H) : Ev S ψ te σ := fun H Q s q => h H Q s fun x H' e p => q x H' e (m x H' p)
theorem Ev.du {te : TE} (h : Ev S (D l (Bnd k b)) te σ) (hk : k ≤ k' := by decide) (hb : b ≤ b' := by decide) : Ev S (D l (Bnd k' b')) te σ := h.mono fun _ _ p => p.up hk hb
theorem Ev.ld {te : TE} (h : Ev S (LD l (Bnd k b) n) te σ) (hk : k + 1 ≤ k' := by decide) (hb : n * (b + 1) ≤ b' := by decide) : Ev S (D l (Bnd k' b')) te σ := h.mono fun _ _ p => p.d.up hk hb
theorem Ev.td {te : TE} (h : Ev S (TD l (Bnd k b) n) te σ) (hk : k + 1 ≤ k' := by decide) (hb : n * (b + 1) ≤ b' := by decide) : Ev S (D l (Bnd k' b')) te σ := h.mono fun _ _ p => p.d.up hk hb
theorem Ev.lu {te : TE} (h : Ev S (LD l (Bnd k b) n) te σ) (hk : k ≤ k' := by decide) (hb : b ≤ b' := by decide) (hn : n ≤ n' := by decide) : Ev S (LD l (Bnd k' b') n') te σ := h.mono fun _ _ p => p.up hk hb hn
/-! constants, names -/
theorem Ev.non : Ev S (D l (Bnd k b)) (tC .non) σ := fun H Q _ q => q _ H (Same.refl H) ⟨_, .non, .non⟩
theorem Ev.bl (x : Bool) : Ev S (D l (Bnd k b)) (tC (.bl x)) σ := fun H Q _ q => q _ H (Same.refl H) ⟨_, .bl x, .bl x⟩
theorem Ev.int (i : Int) (h : i.natAbs < 10 ^ 38 := by decide) : Ev S (D l (Bnd k b)) (tC (.int i)) σ := fun H Q _ q => q _ H (Same.refl H) ⟨_, .int i, .int h⟩
theorem Bnd.str {x : Str} (h : okD (.str x) = true) (hb : x.cps.size ≤ b) : Bnd k b (.str x) := ⟨h, by simp only [PyData.depth]; omega, by simp only [PyData.bulk]; omega⟩
theorem Ev.str (x : Str) (h : okD (.str x) = true := by decide +kernel) (hb : x.cps.size ≤ b := by decide +kernel) : Ev S (D l (Bnd k b)) (tC (.str x)) σ := fun H Q _ q => q _ H (Same.refl H) ⟨_, .str x, .str h hb⟩
theorem Ev.var {φ : Fi} {i : Nat} {x : V} (h : σ[i]? = some (some x)) (hx : ∀ H, S H → φ x H) : Ev S φ (tVar i) σ := fun H Q s q => ⟨x, h, q x H (Same.refl H) (hx H s)⟩
/-! lists, tuples -/
theorem Eva.nil : Eva S (AD l P 0) tNil σ := fun H Q _ q => q _ H (Same.refl H) ⟨[], .nil, (fun _ h => nomatch h), Nat.le_refl _⟩
theorem Eva.cons (st : Stb l S) {te : TE} {ta : TA} (h : Ev S (D l P) te σ) (r : Eva S (AD l P n) ta σ) : Eva S (AD l P (n + 1)) (tCons te ta) σ := fun H Q s q => by
  refine h H _ s fun x H1 e1 p1 => r H1 _ (st.keep _ _ s e1) fun xs H2 e2 p2 => q _ H2 (e1.trans e2) ?_
  obtain ⟨d, hd, hb⟩ := p1.same e2
  obtain ⟨ds, h1, h2, h3⟩ := p2
  exact ⟨d :: ds, .cons hd h1, fun y hy => by
    rcases List.mem_cons.mp hy with z | z
    · rw [z]; exact hb
    · exact h2 y z, by rw [List.length_cons]; omega⟩
theorem Ev.lst (st : Stb l S) {ta : TA} (h : Eva S (AD l P n) ta σ) (hn : n ≤ 100000 := by decide) : Ev S (LD l P n) (tLst ta) σ := fun H Q s q => by
  refine h H _ s fun xs H1 e1 p1 => ?_
  obtain ⟨ds, h1, h2, h3⟩ := p1
  refine ⟨by rw [h1.len, sizeLine_eq]; omega, fun p hp => ?_⟩
  have np := st.new H1 p (st.keep _ _ s e1) hp
  have e2 := same_new' (o := .lst xs) hp
  exact q _ _ (e1.trans e2) ⟨p, xs, ds, rfl, offs_of np upd_same, h1.to (offs_mono e2), h2, h3⟩
theorem Ev.tup (st : Stb l S) {ta : TA} (h : Eva S (AD l P n) ta σ) (hn : n ≤ 100000 := by decide) : Ev S (TD l P n) (tTup ta) σ := fun H Q s q => by
  refine h H _ s fun xs H1 e1 p1 => ?_
  obtain ⟨ds, h1, h2, h3⟩ := p1
  refine ⟨by rw [h1.len, sizeLine_eq]; omega, fun p hp => ?_⟩
  have np := st.new H1 p (st.keep _ _ s e1) hp
  have e2 := same_new' (o := .tup xs) hp
  exact q _ _ (e1.trans e2) ⟨p, xs, ds, rfl, offs_of np upd_same, h1.to (offs_mono e2), h2, h3⟩
theorem Ev.cat (st : Stb l S) {ta tb : TE} (h : Ev S (LD l P n) ta σ) (h' : Ev S (LD l P n') tb σ) (hn : n + n' ≤ 100000 := by decide) : Ev S (LD l P (n + n')) (tOp rCat ta tb) σ := fun H Q s q => by
  refine h H _ s fun x H1 e1 p1 => h' H1 _ (st.keep _ _ s e1) fun y H2 e2 p2 => ?_
  obtain ⟨p, vs, ds, rfl, a1, a2, a3, a4⟩ := p1.same e2
  obtain ⟨p', vs', ds', rfl, b1, b2, b3, b4⟩ := p2
  have h1 := a2.len
  have h2 := b2.len
  refine ⟨p, p', vs, vs', rfl, rfl, (offs_at a1).2, (offs_at b1).2, by rw [sizeLine_eq]; omega, fun r hr => ?_⟩
  have s2 := st.keep _ _ s (e1.trans e2)
  have nr := st.new H2 r s2 hr
  have e3 := same_new' (o := .lst (vs ++ vs')) hr
  exact q _ _ ((e1.trans e2).trans e3) ⟨r, _, ds ++ ds', rfl, offs_of nr upd_same, (a2.app b2).to (offs_mono e3), fun d hd => (List.mem_append.mp hd).elim (a3 d) (b3 d), by rw [List.length_append]; omega⟩
theorem Ev.catT (st : Stb l S) {ta tb : TE} (h : Ev S (TD l P n) ta σ) (h' : Ev S (TD l P n') tb σ) (hn : n + n' ≤ 100000 := by decide) : Ev S (TD l P (n + n')) (tOp (rCatA K) ta tb) σ := fun H Q s q => by
  refine h H _ s fun x H1 e1 p1 => h' H1 _ (st.keep _ _ s e1) fun y H2 e2 p2 => ?_
  obtain ⟨p, vs, ds, rfl, a1, a2, a3, a4⟩ := p1
  have a1 := offs_mono (l := l) e2 _ _ a1
  have a2 := a2.to (offs_mono e2)
  obtain ⟨p', vs', ds', rfl, b1, b2, b3, b4⟩ := p2
  have h1 := a2.len
  have h2 := b2.len
  refine ⟨p, p', vs, vs', rfl, rfl, .inl (.inl (offs_at a1).2), .inl (.inl (offs_at b1).2), by rw [sizeLine_eq]; omega, fun _ => ?_, fun _ _ => ?_, fun _ _ r hr => ?_⟩
  · exact q _ _ (e1.trans e2) ⟨p', vs', ds', rfl, b1, b2, b3, by omega⟩
  · exact q _ _ (e1.trans e2) ⟨p, vs, ds, rfl, a1, a2, a3, by omega⟩
  · have s2 := st.keep _ _ s (e1.trans e2)
    have nr := st.new H2 r s2 hr
    have e3 := same_new' (o := .tup (vs ++ vs')) hr
    exact q _ _ ((e1.trans e2).trans e3) ⟨r, _, ds ++ ds', rfl, offs_of nr upd_same, (a2.app b2).to (offs_mono e3), fun d hd => (List.mem_append.mp hd).elim (a3 d) (b3 d), by rw [List.length_append]; omega⟩
theorem DtAll.drop {H : Hp} : ∀ (i : Nat) {vs : List V} {ds : List PyData}, DtAll H vs ds → DtAll H (vs.drop i) (ds.drop i)
  | 0, _, _, h => h
  | _ + 1, _, _, .nil => .nil
  | i + 1, _, _, .cons _ r => DtAll.drop i r
theorem DtAll.take {H : Hp} : ∀ (i : Nat) {vs : List V} {ds : List PyData}, DtAll H vs ds → DtAll H (vs.take i) (ds.take i)
  | 0, _, _, _ => .nil
  | _ + 1, _, _, .nil => .nil
  | i + 1, _, _, .cons h r => .cons h (DtAll.take i r)
theorem cut_data {H : Hp} {vs : List V} {ds : List PyData} (h : DtAll H vs ds) (lo hi : Option Int) : ∃ es : List PyData, DtAll H (cutV vs lo hi) es ∧ (∀ d ∈ es, d ∈ ds) ∧ es.length ≤ ds.length := by
  unfold cutV
  refine ⟨_, DtAll.take _ (DtAll.drop _ h), fun d hd => List.mem_of_mem_drop (List.mem_of_mem_take hd), ?_⟩
  rw [List.length_take, List.length_drop]
  omega
theorem Ev.cut (st : Stb l S) {te : TE} {lo hi : TO} (h : Ev S (LD l P n) te σ) (h1 : Evo S lo σ) (h2 : Evo S hi σ) : Ev S (LD l P n) (L2.tSl (rSlL K) te lo hi) σ := fun H Q s q => by
  refine h H _ s fun x H1 e1 p1 => h1 H1 _ (st.keep _ _ s e1) fun i H2 e2 => h2 H2 _ (st.keep _ _ s (e1.trans e2)) fun j H3 e3 => ?_
  obtain ⟨p, vs, ds, rfl, a1, a2, a3, a4⟩ := p1.same (e2.trans e3)
  refine ⟨p, vs, rfl, .inl (.inl (offs_at a1).2), fun r hr => ?_⟩
  have e4 := e1.trans (e2.trans e3)
  have nr := st.new H3 r (st.keep _ _ s e4) hr
  have e5 := same_new' (o := .lst (cutV vs i j)) hr
  obtain ⟨es, c1, c2, c3⟩ := cut_data a2 i j
  exact q _ _ (e4.trans e5) ⟨r, _, es, rfl, offs_of nr upd_same, c1.to (offs_mono e5), fun d hd => a3 d (c2 d hd), by omega⟩
theorem Ev.cutT (st : Stb l S) {te : TE} {lo hi : TO} (h : Ev S (TD l P n) te σ) (h1 : Evo S lo σ) (h2 : Evo S hi σ) : Ev S (TD l P n) (L2.tSl (rSlA K) te lo hi) σ := fun H Q s q => by
  refine h H _ s fun x H1 e1 p1 => h1 H1 _ (st.keep _ _ s e1) fun i H2 e2 => h2 H2 _ (st.keep _ _ s (e1.trans e2)) fun j H3 e3 => ?_
  obtain ⟨p, vs, ds, rfl, a1, a2, a3, a4⟩ := p1
  have e23 := e2.trans e3
  have a1 := offs_mono (l := l) e23 _ _ a1
  have a2 := a2.to (offs_mono e23)
  have e4 := e1.trans (e2.trans e3)
  refine ⟨p, vs, rfl, .inl (.inl (offs_at a1).2), fun _ => q _ _ e4 ⟨p, vs, ds, rfl, a1, a2, a3, a4⟩, fun _ r hr => ?_⟩
  have nr := st.new H3 r (st.keep _ _ s e4) hr
  have e5 := same_new' (o := .tup (cutV vs i j)) hr
  obtain ⟨es, c1, c2, c3⟩ := cut_data a2 i j
  exact q _ _ (e4.trans e5) ⟨r, _, es, rfl, offs_of nr upd_same, c1.to (offs_mono e5), fun d hd => a3 d (c2 d hd), by omega⟩
theorem Evo.no : Evo S tNoPart σ := fun H Q _ q => q _ H (Same.refl H)
/-- an int -/
def I : Fi := fun x _ => ∃ i : Int, x = .int i
theorem Ev.intI (i : Int) : Ev S I (tC (.int i)) σ := fun H Q _ q => q _ H (Same.refl H) ⟨i, rfl⟩
theorem Ev.varI {i : Nat} {j : Int} (h : σ[i]? = some (some (.int j))) : Ev S I (tVar i) σ := fun H Q s q => ⟨_, h, q _ H (Same.refl H) ⟨j, rfl⟩⟩
theorem Evo.some {te : TE} (h : Ev S I te σ) : Evo S (tPart te) σ := fun H Q s q => h H _ s fun x H1 e1 p => by
  obtain ⟨i, rfl⟩ := p
  exact ⟨i, rfl, q _ H1 e1⟩
theorem Ev.listL (st : Stb l S) {te : TE} (h : Ev S (LD l P n) te σ) : Ev S (LD l P n) (tCB (rListK K) (tCons te tNil)) σ := fun H Q s q => by
  refine h H _ s fun x H1 e1 p1 => ?_
  obtain ⟨p, vs, ds, rfl, a1, a2, a3, a4⟩ := p1
  refine ⟨p, vs, rfl, .inl (.inl (.inl (offs_at a1).2)), fun r hr => ?_⟩
  have nr := st.new H1 r (st.keep _ _ s e1) hr
  have e5 := same_new' (o := .lst vs) hr
  exact q _ _ (e1.trans e5) ⟨r, _, ds, rfl, offs_of nr upd_same, a2.to (offs_mono e5), a3, a4⟩
theorem Ev.listT (st : Stb l S) {te : TE} (h : Ev S (TD l P n) te σ) : Ev S (LD l P n) (tCB (rListK K) (tCons te tNil)) σ := fun H Q s q => by
  refine h H _ s fun x H1 e1 p1 => ?_
  obtain ⟨p, vs, ds, rfl, a1, a2, a3, a4⟩ := p1
  refine ⟨p, vs, rfl, .inr (.inl (.inl (offs_at a1).2)), fun r hr => ?_⟩
  have nr := st.new H1 r (st.keep _ _ s e1) hr
  have e5 := same_new' (o := .lst vs) hr
  exact q _ _ (e1.trans e5) ⟨r, _, ds, rfl, offs_of nr upd_same, a2.to (offs_mono e5), a3, a4⟩
theorem Ev.tupL (st : Stb l S) {te : TE} (h : Ev S (LD l P n) te σ) : Ev S (TD l P n) (tCB (rTupK K) (tCons te tNil)) σ := fun H Q s q => by
  refine h H _ s fun x H1 e1 p1 => ?_
  obtain ⟨p, vs, ds, rfl, a1, a2, a3, a4⟩ := p1
  refine ⟨p, vs, rfl, .inl ⟨.inl (.inl (offs_at a1).2), fun r hr => ?_⟩⟩
  have nr := st.new H1 r (st.keep _ _ s e1) hr
  have e5 := same_new' (o := .tup vs) hr
  exact q _ _ (e1.trans e5) ⟨r, _, ds, rfl, offs_of nr upd_same, a2.to (offs_mono e5), a3, a4⟩
theorem Ev.len {te : TE} (h : Ev S (LD l (Bnd k b) n) te σ) (hn : n ≤ 100000 := by decide) : Ev S (D l (Bnd k' b')) (tCB (rLenK K) (tCons te tNil)) σ := fun H Q s q => by
  refine h H _ s fun x H1 e1 p1 => ?_
  obtain ⟨p, vs, ds, rfl, a1, a2, a3, a4⟩ := p1
  have := a2.len
  exact ⟨p, vs, rfl, .inl (.inl (.inl (offs_at a1).2)), q _ _ e1 ⟨_, .int _, .int (by omega)⟩⟩
theorem Ev.rep (st : Stb l S) {ta : TE} {j : Nat} (h : Ev S (LD l P n) ta σ) (hj : n * j ≤ 100000 := by decide) (hj2 : j ≤ 1000 := by decide) : Ev S (LD l P (n * j)) (tOp rRep ta (tC (.int (j : Int)))) σ := fun H Q s q => by
  refine h H _ s fun x H1 e1 p1 => ?_
  obtain ⟨p, vs, ds, rfl, a1, a2, a3, a4⟩ := p1
  have hl := a2.len
  have hm : ds.length * j ≤ n * j := Nat.mul_le_mul_right j a4
  refine ⟨p, j, vs, rfl, rfl, (offs_at a1).2, by omega, by omega, by rw [hl, Int.toNat_natCast, sizeLine_eq]; omega, fun r hr => ?_⟩
  have nr := st.new H1 r (st.keep _ _ s e1) hr
  have e5 := same_new' (o := .lst (List.replicate (j : Int).toNat vs).flatten) hr
  have key : ∀ m : Nat, DtAll (offs l H1) (List.replicate m vs).flatten (List.replicate m ds).flatten := by
    intro m
    induction m with
    | zero => exact .nil
    | succ m ih =>
      rw [List.replicate_succ, List.replicate_succ, List.flatten_cons, List.flatten_cons]
      exact a2.app ih
  refine q _ _ (e1.trans e5) ⟨r, _, (List.replicate j ds).flatten, rfl, offs_of nr upd_same, ?_, fun d hd => ?_, ?_⟩
  · rw [Int.toNat_natCast]
    exact (key j).to (offs_mono (by rw [Int.toNat_natCast] at e5; exact e5))
  · obtain ⟨m, hm1, hm2⟩ := List.mem_flatten.mp hd
    rw [List.eq_of_mem_replicate hm1] at hm2
    exact a3 d hm2
  · rw [List.length_flatten, List.map_replicate, List.sum_replicate_nat, Nat.mul_comm]
    exact hm
end
end Hw
namespace Hw
open PySem PySem.Spec PyProof.Rows L2
/-! ### statements, read one by one -/
def iAt (J : It) : TI := fun _ H R => R J H
section
variable {K : PySem.W.Frag} {te : TE} {g : TG} {tb t u : TS} {d : Ends} {σ : L2.St} {H : Hp} {i : Nat}
theorem forL (h : te σ H fun x H1 => ∃ a, x = .ref a ∧ (∃ xs, SqL K H1 a xs) ∧ tFor (iAt (Itl K a)) g tb d σ H1) : tFor (iList K te) g tb d σ H := h
theorem seqL (h : t { d with nx := u d } σ H) : tSeq t u d σ H := h
theorem setL (h : te σ H fun x H1 => d.nx (σ.set i (some x)) H1) : tAsg te (gName i) d σ H := h
theorem setNil (h : ∀ p, H p = none → d.nx (σ.set i (some (.ref p))) (upd H p (.lst []))) : tAsg (tLst tNil) (gName i) d σ H := ⟨Nat.zero_le _, h⟩
theorem retL (h : te σ H d.rt) : tRet te d σ H := h
end
end Hw
namespace Hw
open PySem PySem.Spec PyProof.Rows L2
section
variable {X : Cx} {K : PySem.W.Frag}
theorem pi_enumK {e : Expr} {ta : TA} {p pos tpos : Pos} {elts : List Expr} {kk : Nat} (h : X.K = K) (hg : Gl X "enumerate") (hm : X.mg "enumerate" = none) (ha : PA X [e] ta) (hs : starEach [e] X.env = [(false, eval e X.env)] := by rfl) :
    PI X (.Tuple elts kk tpos) (.Call (.Name "enumerate" p) [e] [] pos) (iEnum K ta) := by
  subst h
  exact pi_enum hg hm ha hs
theorem pi_listK {tg : Expr} {l : Expr} {tl : TE} (h : X.K = K) (hl : PE X l tl) : PI X tg l (iList K tl) := by
  subst h
  exact pi_list hl
end
end Hw
namespace Hw
open PySem PySem.Spec PyProof.Rows L2
/-! ### literals, told exactly -/
def Ed (d : PyData) : Fi := fun x H => Dt H x d
def Eda (ds : List PyData) : List V → Hp → Prop := fun xs H => DtAll H xs ds
abbrev Tr : Hp → Prop := fun _ => True
section
variable {σ : L2.St} {ds : List PyData} {d : PyData} {te : TE} {ta : TA} {i j : Nat} {e : Ends} {H : Hp}
theorem Ev.eint (i : Int) : Ev Tr (Ed (.int i)) (tC (.int i)) σ := fun H Q _ q => q _ H (Same.refl H) (.int i)
theorem Ev.ebl (b : Bool) : Ev Tr (Ed (.bool b)) (tC (.bl b)) σ := fun H Q _ q => q _ H (Same.refl H) (.bl b)
theorem Ev.estr (x : Str) : Ev Tr (Ed (.str x)) (tC (.str x)) σ := fun H Q _ q => q _ H (Same.refl H) (.str x)
theorem Ev.enon : Ev Tr (Ed .none) (tC .non) σ := fun H Q _ q => q _ H (Same.refl H) .non
theorem Eva.enil : Eva Tr (Eda []) tNil σ := fun H Q _ q => q _ H (Same.refl H) .nil
theorem Eva.econs (h : Ev Tr (Ed d) te σ) (r : Eva Tr (Eda ds) ta σ) : Eva Tr (Eda (d :: ds)) (tCons te ta) σ := fun H Q s q => h H _ s fun x H1 e1 p1 => r H1 _ s fun xs H2 e2 p2 => q _ H2 (e1.trans e2) (.cons (Dt.to p1 e2) p2)
theorem Ev.elst (h : Eva Tr (Eda ds) ta σ) (hn : ds.length ≤ 100000 := by decide) : Ev Tr (Ed (.list ds)) (tLst ta) σ := fun H Q s q => h H _ s fun xs H1 e1 p1 => by
  have p1 : DtAll H1 xs ds := p1
  refine ⟨by rw [p1.len, sizeLine_eq]; omega, fun p hp => ?_⟩
  have e2 := same_new' (o := .lst xs) hp
  exact q _ _ (e1.trans e2) (Dt.lst upd_same (p1.to e2))
theorem Ev.etup (h : Eva Tr (Eda ds) ta σ) (hn : ds.length ≤ 100000 := by decide) : Ev Tr (Ed (.tuple ds)) (tTup ta) σ := fun H Q s q => h H _ s fun xs H1 e1 p1 => by
  have p1 : DtAll H1 xs ds := p1
  refine ⟨by rw [p1.len, sizeLine_eq]; omega, fun p hp => ?_⟩
  have e2 := same_new' (o := .tup xs) hp
  exact q _ _ (e1.trans e2) (Dt.tup upd_same (p1.to e2))
theorem parL (h : ta σ H fun vs H1 => ∃ v w, vs = [v, w] ∧ e.nx ((σ.set i (some v)).set j (some w)) H1) : tPar i j ta e σ H := h
theorem Dt.nats_at {x : V} {l : List Nat} (h : Dt H x (.list (natD l))) : ∃ a, x = .ref a ∧ H a = some (.lst (natV l)) := by
  cases h with
  | @lst a xs _ ha hs =>
    have e := DtAll.nats_inv _ _ hs
    subst e
    exact ⟨a, rfl, ha⟩
theorem natV_rep (n x : Nat) : (List.replicate n [V.int (x : Int)]).flatten = natV (List.replicate n x) := by
  unfold natV
  rw [List.map_replicate]
  induction n with
  | zero => rfl
  | succ n ih => rw [List.replicate_succ, List.flatten_cons, ih, List.replicate_succ]; rfl
theorem natV_rep2 (n x y : Nat) : (List.replicate n [V.int (x : Int), .int (y : Int)]).flatten = natV (List.replicate n [x, y]).flatten := by
  unfold natV
  rw [List.map_flatten, List.map_replicate]
  rfl
end
end Hw

set_option Elab.async false
set_option linter.all false
set_option maxRecDepth 100000
set_option maxHeartbeats 4000000
/-! own exceptions as values, made with keywords too -/
namespace Hw
open PySem PySem.Spec PyProof.Rows L2
open PySem.W PySem.Calls PySem.HandSPX
section
variable {prog : Program} {w : World} {A : Around} {E : Value → Shared → Prop} {R : Result → Shared → Prop} {h : Heap} {g : Array GenState} {d : Drawn} {t : Nat} {os : OsState}
variable {nm q : Str} {C N : Addr} {bs bm bmB : List Value} {hdct : Bool} {sn : List Str} {sub : List Value} {ab : Bool} {col : Option Bool} {dd : Option Addr} {k0 k1 k2 k3 k5 : Option Value} {B newId initId : String}
variable {rest : List Value} {kw : List (Str × Value)}
/-- the check of the maker's call, keywords or not -/
theorem new_checks {M : Model} {Q : Unit → Shared → Prop} (F : ExcBaseFacts B newId initId bmB) (tail : ∀ Y : String, bm.contains (.type Y) = bmB.contains (.type Y))
    (hC : h.get? C = some (excClassObj nm q C N bs bm hdct sn sub ab col dd k0 k1 k2 k3 k5 newId)) (next : Q () ⟨h, g, d, t, os⟩) : wpAny M A (checkBuiltinCall newId ⟨.ref C :: rest, kw⟩) Q E ⟨h, g, d, t, os⟩ := by
  have isB : (Value.ref C :: bm).contains (.type B) = true := by
    rw [List.contains_cons, tail, F.hasB]
    exact Bool.or_true _
  have ns := F.noStar
  simp only [checkBuiltinCall, F.newKind, F.newSplit, F.newRow]
  repeat' (first
    | refine wpAny_loadPart_at hC ?_
    | (refine wpAny_isSubtype_exc hC ?_
       rw [isB])
    | refine wpAny_staticBase_exc hC ?_
    | refine wpAny_madeBy_exc hC ?_
    | simp only [bne_self_eq_false, Bool.false_eq_true, if_false]
    | wp_step)
  all_goals first | exact next | skip
/-- the maker itself: a tuple of what it got by position, the exception -/
theorem new_makes (F : ExcBaseFacts B newId initId bmB) (tail : ∀ Y : String, bm.contains (.type Y) = bmB.contains (.type Y))
    (hC : h.get? C = some (excClassObj nm q C N bs bm hdct sn sub ab col dd k0 k1 k2 k3 k5 newId)) (few : rest.length ≤ sizeLine)
    (next : R (.ok (.ret (.ref (h.objs.size + 1)))) ⟨(h.push (W.kdv_tup rest)).push (excO C h.objs.size), g, d, t, os⟩) :
    codeAny (model prog w) A (.builtin newId ⟨.ref C :: rest, kw⟩) R ⟨h, g, d, t, os⟩ := by
  have e1 := F.ends
  have isB : (Value.ref C :: bm).contains (.type B) = true := by
    rw [List.contains_cons, tail, F.hasB]
    exact Bool.or_true _
  have noA : (Value.ref C :: bm).contains (.type "AttributeError") = false := by
    rw [List.contains_cons, tail, F.noAttr]
    rfl
  have noN : (Value.ref C :: bm).contains (.type "NameError") = false := by
    rw [List.contains_cons, tail, F.noName]
    rfl
  refine codeAny_builtinAt F.entry ?_
  unfold Builtin.«BaseException.__new__»
  refine PySem.wpAt_bind ?_
  show PySem.wpAt _ _ _ (stack >>= _) _ _ _
  refine PySem.wpAt_bind (PySem.wpAt_stack fun p below => PySem.wpAt_of_wpAny ?_)
  wp_walk
  refine PySem.wpAt_of_wpAny ?_
  rw [F.owner]
  repeat (first
    | with_reducible refine wpAny_madeHere_exc F.canon hC ?_
    | with_reducible refine wpAny_loadPart_at hC ?_
    | (with_reducible refine wpAny_isSubtype_exc hC ?_
       first | rw [isB] | rw [noA] | rw [noN])
    | wp_step)
  show R _ _
  rw [Heap.size_push]
  exact next
theorem type_makes {fI : Addr} {Q : Fin → Shared → Prop} (F : ExcBaseFacts B newId initId bmB) (tail : ∀ Y : String, bm.contains (.type Y) = bmB.contains (.type Y))
    (hC : h.get? C = some (excClassObj nm q C N bs bm hdct sn sub ab col dd k0 k1 k2 k3 k5 newId))
    (look : W.Looks (model prog w) h (typeLookup (.ref C) "__init__") (some (.ref fI))) (bound : ∀ self, W.Looks (model prog w) h (bindSpecial (.ref fI) self) (.ref fI, [self])) (few : rest.length ≤ sizeLine)
    (run : codeAny (model prog w) A (.call (.ref fI) ⟨.ref (h.objs.size + 1) :: rest, kw⟩) (fun r s' => match r with
        | .ok (.ret v) => v = .none ∧ Q (.done (.ret (.ref (h.objs.size + 1)))) s'
        | .ok _ => False
        | .error e => E e s') ⟨(h.push (W.kdv_tup rest)).push (excO C h.objs.size), g, d, t, os⟩) :
    wpAny (model prog w) A (Builtin.«type.__call__» ⟨.ref C :: rest, kw⟩) Q E ⟨h, g, d, t, os⟩ := by
  repeat (first
    | with_reducible refine wpAny_loadPart_at hC ?_
    | with_reducible refine wpAny_madeBy_exc hC ?_
    | wp_step)
  refine codeAny_call_builtin_code (Code.quiet_builtin _ F.quiet) (new_checks F tail hC ?_)
  refine new_makes F tail hC few ?_
  show wpAny _ _ _ _ _ _
  have kept : ∀ b o, h.get? b = some o → ((h.push (W.kdv_tup rest)).push (excO C h.objs.size)).get? b = some o := fun b o e => Heap.get?_push_of_some _ (Heap.get?_push_of_some _ e)
  have c1 := kept _ _ hC
  have made : ((h.push (W.kdv_tup rest)).push (excO C h.objs.size)).get? (h.objs.size + 1) = some (excO C h.objs.size) := by heap_get
  have self_in : (Value.ref C :: bm).contains (.ref C) = true := by simp
  have l1 := look.keeps kept
  have b1 := (bound (.ref (h.objs.size + 1))).keeps kept
  unfold isInstance
  repeat (first
    | with_reducible refine wpAny_loadPart_at made ?_
    | (with_reducible refine wpAny_isSubtype_exc c1 ?_
       rw [self_in])
    | wp_step)
  show wpAny _ _ (typeLookup (.ref C) _) _ _ _
  refine l1.at (wpAny_holding (wpAny_bind (b1.at (wpAny_bind (wpAny_call (codeAny_mono run fun r s' z => ?_))))))
  cases r with
  | error e => exact z
  | ok v =>
    cases v with
    | ret v =>
      obtain ⟨rfl, z⟩ := z
      first
        | exact wpAny_pure (wpAny_pure z)
        | (wp_walk
           exact z)
    | next => exact z.elim
    | brk => exact z.elim
    | cont => exact z.elim
theorem type_checks {M : Model} {Q : Unit → Shared → Prop} (hC : h.get? C = some (excClassObj nm q C N bs bm hdct sn sub ab col dd k0 k1 k2 k3 k5 newId)) (next : Q () ⟨h, g, d, t, os⟩) : wpAny M A (checkBuiltinCall "type.__call__" ⟨.ref C :: rest, kw⟩) Q E ⟨h, g, d, t, os⟩ := by
  have sub := tc_sub
  have ty : (⟨h, g, d, t, os⟩ : Shared).TypeIs (.ref C) "type" := ⟨_, hC, rfl⟩
  simp only [checkBuiltinCall, tc_kind, tc_split]
  repeat (any_goals (first
    | assumption
    | with_reducible refine wpAny_loadPart_at hC ?_
    | with_reducible refine wpAny_onRaise ?_
    | with_reducible refine wpAny_map ?_
    | wp_step))
/-- C(.., name=..): an own exception whose __init__ is a def -/
theorem call_makes {fI : Addr} (F : ExcBaseFacts B newId initId bmB) (tail : ∀ Y : String, bm.contains (.type Y) = bmB.contains (.type Y))
    (hC : h.get? C = some (excClassObj nm q C N bs bm hdct sn sub ab col dd k0 k1 k2 k3 k5 newId))
    (look : W.Looks (model prog w) h (typeLookup (.ref C) "__init__") (some (.ref fI))) (bound : ∀ self, W.Looks (model prog w) h (bindSpecial (.ref fI) self) (.ref fI, [self])) (few : rest.length ≤ sizeLine)
    (run : codeAny (model prog w) (A.under (.builtin "type.__call__" ⟨.ref C :: rest, kw⟩)) (.call (.ref fI) ⟨.ref (h.objs.size + 1) :: rest, kw⟩) (W.InitBack (h.objs.size + 1) R)
      ⟨(h.push (W.kdv_tup rest)).push (excO C h.objs.size), g, d, t, os⟩) :
    codeAny (model prog w) A (.call (.ref C) ⟨rest, kw⟩) R ⟨h, g, d, t, os⟩ := by
  have f1 := tc_lookup
  have f2 := tc_bind (.ref C)
  have ty : (⟨h, g, d, t, os⟩ : Shared).TypeIs (.ref C) "type" := ⟨_, hC, rfl⟩
  refine codeAny_of_tree ?_
  show wpAny _ _ (callAny (.ref C) _) _ _ _
  repeat (any_goals (first
    | assumption
    | with_reducible refine wpAny_loadPart_at hC ?_
    | wp_step))
  refine ⟨rfl, ?_⟩
  refine codeAny_call_builtin_at (Code.quiet_builtin _ (by decide +kernel)) entry_typeCall (type_checks hC (type_makes F tail hC look bound few (codeAny_mono run fun r s' z => ?_)))
  rcases r with e | (v | _ | _ | _)
  all_goals exact z
end
end Hw

namespace Hw
open PySem PySem.Spec PyProof.Rows L2
/-- what is asked of an own exception class whose __init__ keeps its value -/
structure XcF (K : PySem.W.Frag) (C : Addr) : Prop where
  oex : OexC K C
  fld : XfC K C
  cl : PySem.W.findIn K (.ref C) "__class__" = some (some (.builtin "object.__class__"))
  sp : PySem.W.specialIn K (.builtin "object.__class__") "__get__" = some (some (.builtin "getset_descriptor.__get__"))
  tk : PySem.W.takesIn K (.builtin "object.__class__") = some true
  ob : PySem.W.mroIn K C (.type "object") = some true
  is : (PySem.W.clsIn K C).isSome = true
  no : PySem.W.findIn K (.ref C) "value" = some none
def shapeB (K : PySem.W.Frag) (C : Addr) : Bool := match K.lookup C with
  | some ⟨.type t, _, .cls cd, sl⟩ => (match cd.mro, sl.toList with
    | .ref c0 :: bm, [_, _, _, _, some (.builtin nw), _] => decide (t = "type") && (decide (c0 = C) && (decide (nw = "ValueError.__new__") && (cd.hasDict && (!cd.hasDel && PySem.HandSPX.refsVE bm))))
    | _, _ => false)
  | _ => false
theorem shape_ok {K : PySem.W.Frag} {C : Addr} (h : shapeB K C = true) : ∃ nm q N bs bm sn sub ab col dd k0 k1 k2 k3 k5, K.lookup C = some (excClassObj nm q C N bs bm true sn sub ab col dd k0 k1 k2 k3 k5 "ValueError.__new__") ∧ PySem.HandSPX.refsVE bm = true := by
  unfold shapeB at h
  split at h
  · rename_i t dd cd sl look
    split at h
    · rename_i c0 bm k0 k1 k2 k3 nw k5 e1 e2
      simp only [Bool.and_eq_true, decide_eq_true_eq, Bool.not_eq_true'] at h
      obtain ⟨ht, hc, hn, hd, hl, hv⟩ := h
      subst ht hc hn
      obtain ⟨nm, bs, mro, ns, qn, hd', sn, sub, ab, col, del⟩ := cd
      dsimp only at e1 hd hl
      subst e1 hd hl
      have es : sl = #[k0, k1, k2, k3, some (.builtin "ValueError.__new__"), k5] := by
        obtain ⟨l⟩ := sl
        dsimp only at e2
        rw [e2]
      subst es
      exact ⟨nm, qn, ns, bs, bm, sn, sub, ab, col, dd, k0, k1, k2, k3, k5, look, hv⟩
    · cases h
  · cases h
def xcB (K : PySem.W.Frag) (C : Addr) : Bool :=
  shapeB K C && (He.eqO (PySem.W.findIn K (.ref C) "__setattr__") (some (some (.builtin "object.__setattr__"))) && (decide (PySem.W.subIn K (.ref C) (.type "BaseException") = some true) && (decide (PySem.W.typeIn K (.ref C) = some (.type "type")) && (PySem.W.keepIn K (.ref C) &&
  (xfB K C && (He.eqO (PySem.W.findIn K (.ref C) "__class__") (some (some (.builtin "object.__class__"))) && (He.eqO (PySem.W.specialIn K (.builtin "object.__class__") "__get__") (some (some (.builtin "getset_descriptor.__get__"))) &&
  (decide (PySem.W.takesIn K (.builtin "object.__class__") = some true) && (decide (PySem.W.mroIn K C (.type "object") = some true) && ((PySem.W.clsIn K C).isSome && He.eqO (PySem.W.findIn K (.ref C) "value") (some none)))))))))))
theorem xcB_ok {K : PySem.W.Frag} {C : Addr} (h : xcB K C = true) : XcF K C := by
  unfold xcB at h
  obtain ⟨h1, h⟩ := He.ba h
  obtain ⟨h2, h⟩ := He.ba h
  obtain ⟨h3, h⟩ := He.ba h
  obtain ⟨h4, h⟩ := He.ba h
  obtain ⟨h5, h⟩ := He.ba h
  obtain ⟨h6, h⟩ := He.ba h
  obtain ⟨h7, h⟩ := He.ba h
  obtain ⟨h8, h⟩ := He.ba h
  obtain ⟨h9, h⟩ := He.ba h
  obtain ⟨hA, h⟩ := He.ba h
  obtain ⟨hB, hC⟩ := He.ba h
  exact ⟨⟨shape_ok h1, He.eqO_ok h2, of_decide_eq_true h3, of_decide_eq_true h4, h5⟩, xfB_ok h6, He.eqO_ok h7, He.eqO_ok h8, of_decide_eq_true h9, of_decide_eq_true hA, hB, He.eqO_ok hC⟩
section
variable {X : Cx}
/-- e.value of an own exception that is held -/
def tXv (K : PySem.W.Frag) (n : Str) (te : TE) : TE := fun σ H Q => te σ H fun x H1 => ∃ (a C d : Addr) (fs : List (Str × V)) (y : V), x = .ref a ∧ XfC K C ∧ PySem.W.findIn K (.ref C) n = some none ∧ H1 a = some (exo a C (some d)) ∧ H1 d = some (exd d fs) ∧ fs.lookup n = some y ∧ Q y H1
theorem pe_xv {K : PySem.W.Frag} {e : Expr} {te : TE} {pos : Pos} {n : Str} (hK : X.K = K) (he : PE X e te) (hb : attributeBase e n X.env (eval e X.env) = eval e X.env := by rfl) : PE X (.Attribute e n pos) (tXv K n te) := by
  subst hK
  constructor
  intro pins s σ H Q I h
  refine attr_of hb (thn (he.run pins s σ H _ I h) ?_)
  rintro u s1 ⟨x, H1, I1, rx, a, C, d, fs, y, rfl, T, no, ea, ed, l, q⟩
  cases (show u = Value.ref a from rx)
  obtain ⟨t1, oa⟩ := exo_at I1.hok ea
  obtain ⟨mA, ns, rel⟩ := exd_at I1.hok ed
  obtain ⟨od, look, val⟩ := lookIn_ns ns
  obtain ⟨v, hv, rv⟩ := RelO.some_of (v := y) (o := mA n) (by rw [← l]; exact rel n)
  have at_ : PySem.W.InstAt s1.heap a { cls := .ref C, dict := some d, data := .fields #[.ref t1, .none, .none, .none, .bool false, .none] } C (some od) := ⟨oa, rfl, rfl, look⟩
  exact HandSPX.exc_get I1.kIn at_ T.ga T.gg T.exC (PySem.W.findObj_own T.hdC no rfl (by rw [val, hv])) (handed_of rv) ⟨y, H1, I1.tok _, rv, q⟩
/-- isinstance(e, T) of an own exception that is held -/
def rIsX (K : PySem.W.Frag) : List V → Hp → VK → Prop := fun xs H Q => ∃ (a C : Addr) (d : Option Addr) (c : V) (u : Value) (b : Bool), xs = [.ref a, c] ∧ ClsV c u ∧ XcF K C ∧ H a = some (exo a C d) ∧ (∀ e, d = some e → ∃ fs, H e = some (exd e fs)) ∧ PySem.W.kitOne K (.ref C) u = some b ∧ Q (.bl b) H
theorem call_isX {K : PySem.W.Frag} (hK : X.K = K) : CallR X (.builtin "isinstance") (rIsX K) := by
  subst hK
  intro pins s σ H xs us Q I r h
  obtain ⟨a, C, d, c, u, b, rfl, k, T, ea, hd, e, q⟩ := h
  obtain ⟨u1, u2, rfl, r1, r2⟩ := vals2 r
  cases k.eq r2
  cases (show u1 = Value.ref a from r1)
  obtain ⟨t1, oa⟩ := exo_at I.hok ea
  have is : ∃ od, PySem.W.InstAt s.heap a { cls := .ref C, dict := d, data := .fields #[.ref t1, .none, .none, .none, .bool false, .none] } C od := by
    cases d with
    | none => exact ⟨none, oa, rfl, rfl, trivial⟩
    | some d =>
      obtain ⟨fs, ed⟩ := hd d rfl
      obtain ⟨mA, ns, _⟩ := exd_at I.hok ed
      obtain ⟨od, look, _⟩ := lookIn_ns ns
      exact ⟨some od, oa, rfl, rfl, look⟩
  obtain ⟨od, J⟩ := is
  exact PySem.W.kia_one (PySem.W.kitx_exc T.is T.fld.ga T.fld.gg T.oex.exC T.cl T.sp T.tk T.ob) I.kIn J e (fun z => nomatch z) fun tk => ⟨.bl b, H, I.tok tk, rfl, q⟩
end
end Hw

set_option Elab.async false
set_option linter.all false
set_option maxRecDepth 100000
set_option maxHeartbeats 4000000
/-! C(value), C(value=..), C(): an own exception is made and held -/
namespace Hw
open PySem PySem.Spec PyProof.Rows L2
/-- the promise of such an __init__ -/
def spInit (K : PySem.W.Frag) : Sp := fun vs H Q _ => ∃ (a C : Addr) (y : V), vs = [.ref a, y] ∧ OexC K C ∧ PySem.W.findIn K (.ref C) "value" = some none ∧ H a = some (exo a C none) ∧ ∀ d, H d = none → d ≠ a → Q .non (upd (upd H d (exd d [("value", y)])) a (exo a C (some d)))
/-- what was made: a, its dict d, the value y -/
def Made (H : Hp) (C : Addr) (y : V) (Q : VK) : Prop := ∀ (a d : Addr) (H' : Hp), H a = none → H d = none → d ≠ a → Same H H' → H' a = some (exo a C (some d)) → H' d = some (exd d [("value", y)]) → Q (.ref a) H'
section
variable {X : Cx} {CX : CXT} {k : Nat} {fI C : Addr} {fd : FuncData}
theorem run_made {pins : List (Addr × Obj)} {σ : L2.St} {H : Hp} {s : Shared} {Q : VK} {us0 : List Value} {kw : List (Str × Value)} {u : Value} {y : V} (T : XcF X.K C) (iC : PySem.W.findIn X.K (.ref C) "__init__" = some (some (.ref fI))) (tI : PySem.W.typeIn X.K (.ref fI) = some (.type "function"))
    (F : FnG X.prog X.w X.K X.mg X.base CX k fI fd ["self", "value"] (spInit X.K)) (gd : Gd X.A) (hr : Room (k + 1) X.A) (hx : Passes CX X (fun _ _ _ => False)) (I : Inv X pins σ H s)
    (hb : ∀ (s : Shared) (e : Value), X.K.In s.heap → BindsTo s fd ⟨e :: us0, kw⟩ ((["self", "value"] : List Str).zip [e, u])) (ry : RelV y u) (few : us0.length ≤ sizeLine) (h : Made H C y Q) :
    wpAny (model X.prog X.w) X.A (call (.ref C) us0 kw) (EP X pins σ Q) X.xe s := by
  obtain ⟨nm, q, N, bs, bm, sn, sub, ab, col, dd, k0, k1, k2, k3, k5, hC, hbm⟩ := T.oex.cls
  obtain ⟨hp, g, dr, tk, os⟩ := s
  have gone : H (hp.objs.size + 1) = none := I.hok.fresh (Nat.le_succ _)
  have at_ : ((hp.push (PySem.W.kdv_tup us0)).push (PySem.HandSPX.excO C hp.objs.size)).get? (hp.objs.size + 1) = some (PySem.HandSPX.excO C hp.objs.size) := by heap_get
  have I2 : Inv X pins σ (upd H (hp.objs.size + 1) (exo (hp.objs.size + 1) C none)) ⟨(hp.push (PySem.W.kdv_tup us0)).push (PySem.HandSPX.excO C hp.objs.size), g, dr, tk, os⟩ :=
    I.laid (t' := tk) (a := hp.objs.size + 1) (o := exo (hp.objs.size + 1) C none) (fun b o e => Heap.get?_push_of_some _ (Heap.get?_push_of_some _ e)) (Nat.le_succ _) (exo_ok at_)
  refine wpAny_call (call_makes PySem.F.excBase_ValueError (fun Y => PySem.HandSPX.refsVE_contains Y bm hbm) (I.kIn _ _ hC) (PySem.W.looks_findIn I.kIn iC) (fun self => PySem.W.bind_fn I.kIn self tI) few ?_)
  refine codeAny_mono (F.go _ X.stack _ _ ⟨Value.ref (hp.objs.size + 1) :: us0, kw⟩ [Value.ref (hp.objs.size + 1), u] [V.ref (hp.objs.size + 1), y] (fun v H2 => v = .non ∧ Q (.ref (hp.objs.size + 1)) H2) (fun _ _ _ => False) gd (hr.make C us0 kw) (I2.env0.make C us0 kw) (hb _ _ I2.kIn) (.cons rfl (.cons ry .nil)) ?_) ?_
  · refine ⟨_, C, y, rfl, T.oex, T.no, upd_same, fun d hd nd => ⟨rfl, ?_⟩⟩
    have hd0 : H d = none := by
      rw [upd_ne nd] at hd
      exact hd
    refine h _ d _ gone hd0 nd (fun b o e => ?_) upd_same ?_
    · rw [upd_ne (ne_of_none e gone), upd_ne (ne_of_none e hd0), upd_ne (ne_of_none e gone)]
      exact e
    · rw [upd_ne nd, upd_same]
  · intro r s' after
    cases r with
    | error e => exact hx pins σ _ _ e s' I2 after
    | ok fl =>
      cases fl with
      | ret v =>
        obtain ⟨x, H2, J, rv, ev, q2⟩ := I2.after after
        subst ev
        exact ⟨rv, ⟨.ref (hp.objs.size + 1), H2, J, rfl, q2⟩⟩
      | next => exact False.elim after
      | brk => exact False.elim after
      | cont => exact False.elim after
/-- C(value) -/
def tX1 (C : Addr) (t : TA) : TE := fun σ H Q => t σ H fun vs H1 => ∃ y, vs = [y] ∧ Made H1 C y Q
/-- C(), C(value=value): the value is y of what is handed -/
def tX0 (C : Addr) (y : V) : TE := fun _ H Q => Made H C y Q
section
variable {x : Str} {p pos : Pos} {e : Expr} {es : List Expr} {kws : List Keyword} {t tk : TA} {ks : List Str}
theorem pe_x1 {g : List Value → List Value → List Value} {gV : List V → List V → List V} (T : XcF X.K C) (iC : PySem.W.findIn X.K (.ref C) "__init__" = some (some (.ref fI))) (tI : PySem.W.typeIn X.K (.ref fI) = some (.type "function"))
    (F : FnG X.prog X.w X.K X.mg X.base CX k fI fd ["self", "value"] (spInit X.K)) (gd : Gd X.A) (hr : Room (k + 1) X.A) (hx : Passes CX X (fun _ _ _ => False)) (hg : Gl X x) (hm : X.mg x = some (.ref C))
    (hb : ∀ (s : Shared) (e u : Value), X.K.In s.heap → BindsTo s fd ⟨[e, u], []⟩ ((["self", "value"] : List Str).zip [e, u])) (ha : PA X (e :: es) t)
    (hdb : (x == ("__debug__" : Str)) = false := by decide) (he : starEach (e :: es) X.env = (false, eval e X.env) :: starEach es X.env := by rfl) (hpl : (backTo pos (starEach es X.env)).any (·.1) = false := by rfl) :
    PE X (.Call (.Name x p) (e :: es) [] pos) (tX1 C t) := by
  constructor
  intro pins s σ H Q I h
  apply wpAny_Call_Name_kw
  refine ld_glob I hg hm (PySem.W.callWith_K (h₀ := X.base) I.ok.mod.kin T.oex.kC (thn (ha.run pos pins s σ H _ I h) ?_) he hpl) hdb
  rintro us s1 ⟨vs, H1, I1, r, y, rfl, made⟩
  obtain ⟨u, rfl, ru⟩ := vals1 r
  exact ⟨I1.kIn, run_made T iC tI F gd hr hx I1 (fun s e hK => hb s e u hK) ru (by show 1 ≤ sizeLine; rw [sizeLine_eq]; decide) made⟩
theorem pe_x0 (T : XcF X.K C) (iC : PySem.W.findIn X.K (.ref C) "__init__" = some (some (.ref fI))) (tI : PySem.W.typeIn X.K (.ref fI) = some (.type "function"))
    (F : FnG X.prog X.w X.K X.mg X.base CX k fI fd ["self", "value"] (spInit X.K)) (gd : Gd X.A) (hr : Room (k + 1) X.A) (hx : Passes CX X (fun _ _ _ => False)) (hg : Gl X x) (hm : X.mg x = some (.ref C))
    (hb : ∀ (s : Shared) (e : Value), X.K.In s.heap → BindsTo s fd ⟨[e], []⟩ ((["self", "value"] : List Str).zip [e, .none])) (hall : (backToKw pos (keywordEach [] X.env)).all (·.1.isSome) = true := by rfl)
    (hdb : (x == ("__debug__" : Str)) = false := by decide) (hpl : ((backTo pos (starEach [] X.env)).any (·.1) || (backToKw pos (keywordEach [] X.env)).any (·.1.isNone)) = false := by rfl) :
    PE X (.Call (.Name x p) [] [] pos) (tX0 C .non) := by
  constructor
  intro pins s σ H Q I h
  apply wpAny_Call_Name_kw
  refine ld_glob I hg hm (PySem.W.callWith_KW0 (h₀ := X.base) I.ok.mod.kin T.oex.kC hall (thn (pk_nil.run pos pins s σ H (fun vs H1 => vs = [] ∧ H1 = H) I ⟨rfl, rfl⟩) ?_) hpl) hdb
  rintro ws s1 ⟨zs, H1, I1, rz, rfl, rfl⟩
  cases rz
  exact ⟨I1.kIn, run_made T iC tI F gd hr hx I1 (u := .none) (y := .non) (us0 := []) (kw := []) (fun s e hK => hb s e hK) rfl (Nat.zero_le _) h⟩
/-- C(value=..) -/
theorem pe_xk (T : XcF X.K C) (iC : PySem.W.findIn X.K (.ref C) "__init__" = some (some (.ref fI))) (tI : PySem.W.typeIn X.K (.ref fI) = some (.type "function"))
    (F : FnG X.prog X.w X.K X.mg X.base CX k fI fd ["self", "value"] (spInit X.K)) (gd : Gd X.A) (hr : Room (k + 1) X.A) (hx : Passes CX X (fun _ _ _ => False)) (hg : Gl X x) (hm : X.mg x = some (.ref C))
    (hb : ∀ (s : Shared) (e u : Value), X.K.In s.heap → BindsTo s fd ⟨[e], [("value", u)]⟩ ((["self", "value"] : List Str).zip [e, u])) (hkw : PK X kws tk) (hall : (backToKw pos (keywordEach kws X.env)).all (·.1.isSome) = true := by rfl)
    (hks : (backToKw pos (keywordEach kws X.env)).filterMap (·.1) = (["value"] : List Str) := by rfl)
    (hdb : (x == ("__debug__" : Str)) = false := by decide) (hpl : ((backTo pos (starEach [] X.env)).any (·.1) || (backToKw pos (keywordEach kws X.env)).any (·.1.isNone)) = false := by rfl) :
    PE X (.Call (.Name x p) [] kws pos) (tX1 C tk) := by
  constructor
  intro pins s σ H Q I h
  apply wpAny_Call_Name_kw
  refine ld_glob I hg hm (PySem.W.callWith_KW0 (h₀ := X.base) I.ok.mod.kin T.oex.kC hall (thn (hkw.run pos pins s σ H _ I h) ?_) hpl) hdb
  rintro ws s1 ⟨zs, H1, I1, rz, y, rfl, made⟩
  obtain ⟨u, rfl, ru⟩ := vals1 rz
  rw [hks]
  exact ⟨I1.kIn, run_made T iC tI F gd hr hx I1 (us0 := []) (kw := [("value", u)]) (fun s e hK => hb s e u hK) ru (Nat.zero_le _) made⟩
/-- C() of a class without own __init__ -/
theorem pe_x00 {bmB : List Value} (T : XcF X.K C) (q : PySem.W.excIn X.K C He.veBase "ValueError.__new__" = true) (hg : Gl X x) (hm : X.mg x = some (.ref C)) (hall : (backToKw pos (keywordEach [] X.env)).all (·.1.isSome) = true := by rfl)
    (hdb : (x == ("__debug__" : Str)) = false := by decide) (hpl : ((backTo pos (starEach [] X.env)).any (·.1) || (backToKw pos (keywordEach [] X.env)).any (·.1.isNone)) = false := by rfl) :
    PE X (.Call (.Name x p) [] [] pos) (fun _ H Q => ∀ a, H a = none → Q (.ref a) (upd H a (exo a C none))) := by
  constructor
  intro pins s σ H Q I h
  apply wpAny_Call_Name_kw
  refine ld_glob I hg hm (PySem.W.callWith_KW0 (h₀ := X.base) I.ok.mod.kin T.oex.kC hall (thn (pk_nil.run pos pins s σ H (fun vs H1 => vs = [] ∧ H1 = H) I ⟨rfl, rfl⟩) ?_) hpl) hdb
  rintro ws s1 ⟨zs, H1, I1, rz, rfl, rfl⟩
  cases rz
  refine ⟨I1.kIn, ?_⟩
  show wpAny _ _ (call (.ref C) []) _ _ _
  obtain ⟨bm, N, nm, qn, bs, hdct, sn, sub, ab, col, dd, k0, k1, k2, k3, k5, mN, hC, hN, hni, OT⟩ := exc_obj I1.kIn q
  refine wpAny_call_exc_subT PySem.F.excBase_ValueError OT hC hN hni (fun h' a hm => ?_) (Nat.zero_le _)
  have gone : H1 a = none := I1.hok.gone hm.new
  obtain ⟨t, at_, _, _⟩ := hm.there
  exact ⟨.ref a, upd H1 a (exo a C none), I1.laidN hm.keeps hm.new gone (exo_ok at_), rfl, h a gone⟩
end
end
end Hw

namespace Hw
open PySem PySem.Spec PyProof.Rows L2
section
variable {K : PySem.W.Frag} {x qual : Str} {params : Arguments} {body : List Stmt} {scope : Scope} {f : Addr} {fd : FuncData}
/-- what is bound by the three ways to call such an __init__ -/
structure IniB (K : PySem.W.Frag) (fd : FuncData) : Prop where
  b2 : ∀ (s : Shared) (e u : Value), K.In s.heap → BindsTo s fd ⟨[e, u], []⟩ ((["self", "value"] : List Str).zip [e, u])
  b1 : ∀ (s : Shared) (e : Value), K.In s.heap → BindsTo s fd ⟨[e], []⟩ ((["self", "value"] : List Str).zip [e, .none])
  bk : ∀ (s : Shared) (e u : Value), K.In s.heap → BindsTo s fd ⟨[e], [("value", u)]⟩ ((["self", "value"] : List Str).zip [e, u])
theorem iniB_of (F : FunD K x qual params body scope [.non] [] f fd)
    (h2 : ∀ (T : Addr) (kV doc pm : Value) (an : Option Addr) (cdv ct : Value) (e u n : Value), ∃ k, bindArgs (PySem.W.fnOf x qual params body scope (.ref T) kV doc pm an cdv ct) ⟨[e, u], []⟩ = seqItems? (.ref T) >>= k ∧ k (some #[n]) = pure ((["self", "value"] : List Str).zip [e, u]))
    (h1 : ∀ (T : Addr) (kV doc pm : Value) (an : Option Addr) (cdv ct : Value) (e n : Value), ∃ k, bindArgs (PySem.W.fnOf x qual params body scope (.ref T) kV doc pm an cdv ct) ⟨[e], []⟩ = seqItems? (.ref T) >>= k ∧ k (some #[n]) = pure ((["self", "value"] : List Str).zip [e, n]))
    (hk : ∀ (T : Addr) (kV doc pm : Value) (an : Option Addr) (cdv ct : Value) (e u n : Value), ∃ k, bindArgs (PySem.W.fnOf x qual params body scope (.ref T) kV doc pm an cdv ct) ⟨[e], [("value", u)]⟩ = seqItems? (.ref T) >>= k ∧ k (some #[n]) = pure ((["self", "value"] : List Str).zip [e, u])) : IniB K fd := by
  refine ⟨?_, ?_, ?_⟩
  · obtain ⟨its, B⟩ := F.kbindsD 2 [] (fun us _ _ => us) (by decide) (fun r _ _ => r) fun T kV doc pm an cdv ct us its ws l1 l2 l3 => match us, its, ws, l1, l2, l3 with | [e, u], [n], [], _, _, _ => h2 T kV doc pm an cdv ct e u n
    exact fun s e u hK => B.to s [e, u] [] hK rfl rfl
  · obtain ⟨its, B⟩ := F.kbindsD 1 [] (fun us its _ => us ++ its) (by decide) (fun r r' _ => r.append r') fun T kV doc pm an cdv ct us its ws l1 l2 l3 => match us, its, ws, l1, l2, l3 with | [e], [n], [], _, _, _ => h1 T kV doc pm an cdv ct e n
    intro s e hK
    have b := B.to s [e] [] hK rfl rfl
    have r := B.rel (vs := [.non]) (us := [.none]) (zs := []) (ws := []) (.cons rfl .nil) .nil
    have e1 : its = [.none] := by
      cases r with
      | cons _ r =>
        cases r with
        | cons a r =>
          cases r
          cases (show _ = Value.none from a)
          rfl
    rw [e1] at b
    exact b
  · obtain ⟨its, B⟩ := F.kbindsD 1 ["value"] (fun us _ ws => us ++ ws) (by decide) (fun r _ r' => r.append r') fun T kV doc pm an cdv ct us its ws l1 l2 l3 => match us, its, ws, l1, l2, l3 with | [e], [n], [u], _, _, _ => hk T kV doc pm an cdv ct e u n
    exact fun s e u hK => B.to s [e] [u] hK rfl rfl
end
end Hw

set_option Elab.async false
set_option linter.all false
set_option maxRecDepth 100000
set_option maxHeartbeats 4000000
namespace Hw
open PySem PySem.Spec PyProof.Rows L2
section
variable {X : Cx}
/-- x == y of data, or of a dict of one int with itself -/
def rEqS : R2 := fun x y H Q => rEqT x y H Q ∨ ∃ (a : Addr) (k : Str) (i : Int), x = .ref a ∧ y = .ref a ∧ H a = some (.dK [(.inr k, .int i)]) ∧ Q (.bl true) H
theorem op_eqS (hu : X.A.units + 64 < cLine) : OpR X (compareOp .Eq) rEqS := by
  intro pins s σ H x y v u Q I rx ry h
  rcases h with h | ⟨a, k, i, rfl, rfl, e, q⟩
  · exact op_eqT hu pins s σ H x y v u Q I rx ry h
  · cases (show v = Value.ref a from rx)
    cases (show u = Value.ref a from ry)
    obtain ⟨_, ns, vs, kv, dd⟩ := dk_of I.hok e
    cases kv with
    | @cons _ q1 _ _ h1 h2 =>
    cases h2
    obtain ⟨kk, vv⟩ := q1
    obtain ⟨e1, e2⟩ := h1
    obtain ⟨t, ht⟩ := e2
    have ht : vv = Value.int i t := ht
    subst ht
    refine PySem.W.keq_eq (r := true) ns ns dd dd (by omega) (fun _ => ?_) ?_
    · have hit := PySem.W.KeqHits.hit (A := X.A.in1) (s := s) (kb := [(kk, Value.int i t)]) (k := kk) (v := Value.int i t) (y := Value.int i t) (r := []) (by unfold valueAt; simp) (SeqAt.EqAt.int_int i t i t) .nil
      rw [show ((i == i) && true) = true by simp] at hit
      exact hit
    · exact ⟨.bl true, H, I, rfl, q⟩
/-- a short text n times -/
def rMulS : R2 := fun x y H Q => ∃ (z : Str) (n : Int), x = .str z ∧ y = .int n ∧ 0 ≤ n ∧ n ≤ 100 ∧ z.length ≤ 100 ∧ Q (.str (Txt.mul z n)) H
theorem op_mulS : OpR X (binaryOp .Mult) rMulS := by
  intro pins s σ H x y v u Q I rx ry h
  obtain ⟨z, n, rfl, rfl, n0, n1, hz, q⟩ := h
  obtain ⟨t, rfl⟩ := rx
  obtain ⟨t2, rfl⟩ := ry
  refine SB.mul ⟨?_, fun h1 _ => ?_, fun h1 _ => ?_⟩ fun t' k => ⟨.str _, H, I.tok _, ⟨_, rfl⟩, q⟩
  · simp only [Bool.or_eq_false_iff, decide_eq_false_iff_not]
    exact ⟨by omega, by omega⟩
  · have h2 : (100 : Int) ≤ (2 ^ 63 - 1) / n := Int.le_ediv_of_mul_le (by omega) (by omega)
    omega
  · have h2 : z.length * n.toNat ≤ 100 * 100 := Nat.mul_le_mul hz (by omega)
    show decide (z.length * n.toNat > sizeLine) = false
    rw [sizeLine_eq]
    exact decide_eq_false (by omega)
/-! ### lists of exceptions that were made -/
/-- x is an exception of the class at C that keeps y -/
def MX (y : V) (C : Addr) (x : V) (H : Hp) : Prop := ∃ a d, x = .ref a ∧ H a = some (exo a C (some d)) ∧ H d = some (exd d [("value", y)])
inductive MXs (y : V) (H : Hp) : List Addr → List V → Prop
  | nil : MXs y H [] []
  | cons {C : Addr} {Cs : List Addr} {x : V} {xs : List V} : MX y C x H → MXs y H Cs xs → MXs y H (C :: Cs) (x :: xs)
def ML (y : V) (Cs : List Addr) : Fi := fun x H => ∃ p xs, x = .ref p ∧ H p = some (.lst xs) ∧ MXs y H Cs xs
theorem MX.to {y : V} {C : Addr} {x : V} {H H' : Hp} (m : MX y C x H) (e : Same H H') : MX y C x H' := by
  obtain ⟨a, d, rfl, h1, h2⟩ := m
  exact ⟨a, d, rfl, e _ _ h1, e _ _ h2⟩
theorem MXs.to {y : V} {H H' : Hp} : ∀ {Cs : List Addr} {xs : List V}, MXs y H Cs xs → Same H H' → MXs y H' Cs xs
  | _, _, .nil, _ => .nil
  | _, _, .cons m r, e => .cons (m.to e) (r.to e)
theorem MXs.app {y : V} {H : Hp} : ∀ {Cs Ds : List Addr} {xs ys : List V}, MXs y H Cs xs → MXs y H Ds ys → MXs y H (Cs ++ Ds) (xs ++ ys)
  | _, _, _, _, .nil, k => k
  | _, _, _, _, .cons m r, k => .cons m (r.app k)
theorem MXs.len {y : V} {H : Hp} : ∀ {Cs : List Addr} {xs : List V}, MXs y H Cs xs → xs.length = Cs.length
  | _, _, .nil => rfl
  | _, _, .cons _ r => by rw [List.length_cons, List.length_cons, r.len]
theorem MXs.get {y : V} {H : Hp} : ∀ {Cs : List Addr} {xs : List V}, MXs y H Cs xs → ∀ (i : Nat) (x : V), xs[i]? = some x → ∃ C, Cs[i]? = some C ∧ MX y C x H
  | _, _, .nil, i, x, h => by simp at h
  | _, _, .cons m r, 0, x, h => by
    have e := Option.some.inj (show some _ = some x from h)
    subst e
    exact ⟨_, rfl, m⟩
  | _, _, .cons _ r, i + 1, x, h => r.get i x h
section
variable {y : V} {C : Addr} {Cs Ds : List Addr} {σ : L2.St} {te tf : TE} {ta : TA} {i : Nat}
theorem Ev.mx1 (h : σ[i]? = some (some y)) : Ev Tr (MX y C) (tX1 C (tCons (tVar i) tNil)) σ := fun H Q _ q => ⟨y, h, y, rfl, fun a d H' _ _ _ e h1 h2 => q _ H' e ⟨a, d, rfl, h1, h2⟩⟩
theorem Ev.mx0 : Ev Tr (MX y C) (tX0 C y) σ := fun H Q _ q => fun a d H' _ _ _ e h1 h2 => q _ H' e ⟨a, d, rfl, h1, h2⟩
theorem Eva.mnil : Eva Tr (fun xs H => MXs y H [] xs) tNil σ := fun H Q _ q => q _ H (Same.refl H) .nil
theorem Eva.mcons (h : Ev Tr (MX y C) te σ) (r : Eva Tr (fun xs H => MXs y H Cs xs) ta σ) : Eva Tr (fun xs H => MXs y H (C :: Cs) xs) (tCons te ta) σ := fun H Q s q =>
  h H _ s fun x H1 e1 p1 => r H1 _ s fun xs H2 e2 p2 => q _ H2 (e1.trans e2) (.cons (p1.to e2) p2)
theorem Ev.mlst (h : Eva Tr (fun xs H => MXs y H Cs xs) ta σ) (hn : Cs.length ≤ 1000) : Ev Tr (ML y Cs) (tLst ta) σ := fun H Q s q => h H _ s fun xs H1 e1 p1 => by
  have p1 : MXs y H1 Cs xs := p1
  refine ⟨by rw [p1.len, sizeLine_eq]; omega, fun p hp => ?_⟩
  have e2 := same_new' (o := .lst xs) hp
  exact q _ _ (e1.trans e2) ⟨p, xs, rfl, upd_same, p1.to e2⟩
theorem ML.to {x : V} {H H' : Hp} (m : ML y Cs x H) (e : Same H H') : ML y Cs x H' := by
  obtain ⟨p, xs, rfl, h1, h2⟩ := m
  exact ⟨p, xs, rfl, e _ _ h1, h2.to e⟩
theorem Ev.mvar {H0 : Hp} {S : Hp → Prop} {x : V} (h : σ[i]? = some (some x)) (m : ∀ H, S H → ML y Cs x H) : Ev S (ML y Cs) (tVar i) σ := fun H Q s q => ⟨x, h, q x H (Same.refl H) (m H s)⟩
/-- found + [..] -/
theorem mcat {x : V} {H : Hp} {Q : VK} (m : ML y Cs x H) (hx : σ[i]? = some (some x)) (h : Ev Tr (ML y Ds) te σ) (hn : Cs.length + Ds.length ≤ 1000) (q : ∀ x H', Same H H' → ML y (Cs ++ Ds) x H' → Q x H') : tOp rCat (tVar i) te σ H Q := by
  refine ⟨x, hx, h H _ trivial fun z H1 e1 mz => ?_⟩
  obtain ⟨p, xs, rfl, h1, h2⟩ := m.to e1
  obtain ⟨p', ys, rfl, k1, k2⟩ := mz
  have l1 := h2.len
  have l2 := k2.len
  refine ⟨p, p', xs, ys, rfl, rfl, h1, k1, by rw [sizeLine_eq]; omega, fun r hr => ?_⟩
  have e2 := same_new' (o := .lst (xs ++ ys)) hr
  exact q _ _ (e1.trans e2) ⟨r, _, rfl, upd_same, (h2.app k2).to e2⟩
end
end
end Hw

/-! ### the head's facts with a further check -/
namespace Hw
open PySem PySem.Spec PyProof.Rows L2
def obsX (fa : List He.Fa) (fn : List He.DefD) (chk : PySem.W.Frag → Bool) (K : PySem.W.Frag) : He.AlD := ((He.obsD fa fn K).1 && chk K, (He.obsD fa fn K).2)
def SaysX (fa : List He.Fa) (fn : List He.DefD) (chk : PySem.W.Frag → Bool) (K : PySem.W.Frag) : Prop := obsX fa fn chk K = He.valD fn
def obsXG (n : Nat) (fa : List He.Fa) (fn : List He.DefD) (chk : PySem.W.Frag → Bool) (g : Addr → Option Obj) : He.AlD := obsX fa fn chk (He.frG g (He.asD g n))
def hookX (n : Nat) (fa : List He.Fa) (fn : List He.DefD) (chk : PySem.W.Frag → Bool) : PySem.W.Hook where
  α := He.AlD
  obs := fun s => obsXG n fa fn chk s.heap.get?
  val := fun _ => He.valD fn
  says := fun _ h => ∃ K : PySem.W.Frag, K.In h ∧ SaysX fa fn chk K
  of := fun _ _ e => ⟨_, He.frG_in, e⟩
  keeps := fun _ _ _ ⟨K, hK, c⟩ k => ⟨K, PySem.W.Frag.In.keeps hK k, c⟩
theorem obsXG_eq {n : Nat} {fa : List He.Fa} {fn : List He.DefD} {chk : PySem.W.Frag → Bool} {g : Addr → Option Obj} {s : Shared} (h : ∀ a, g a = s.heap.get? a) : obsXG n fa fn chk g = (hookX n fa fn chk).obs s := by
  rw [show g = s.heap.get? from funext h]
  rfl
theorem SaysX.says {fa : List He.Fa} {fn : List He.DefD} {chk : PySem.W.Frag → Bool} {K : PySem.W.Frag} (h : SaysX fa fn chk K) : He.SaysD fa fn K ∧ chk K = true := by
  have e1 : ((He.obsD fa fn K).1 && chk K) = true := congrArg Prod.fst (show obsX fa fn chk K = He.valD fn from h)
  have e2 : (obsX fa fn chk K).2 = (He.valD fn).2 := congrArg Prod.snd (show obsX fa fn chk K = He.valD fn from h)
  obtain ⟨a, b⟩ := Bool.and_eq_true_iff.mp e1
  exact ⟨Prod.ext a e2, b⟩
end Hw

set_option Elab.async false
set_option linter.all false
set_option maxRecDepth 100000
set_option maxHeartbeats 4000000
namespace Hw
open PySem PySem.Spec PyProof.Rows L2
section
variable {y : V} {C : Addr} {Cs Ds : List Addr} {σ : L2.St} {te tf : TE} {ta : TA} {i : Nat} {S : Hp → Prop} {d : PyData} {ds es : List PyData} {K : PySem.W.Frag}
theorem mcatB {x : V} {H : Hp} {Q : VK} (m : ML y Cs x H) (h : Ev Tr (ML y Ds) te σ) (hn : Cs.length + Ds.length ≤ 1000) (q : ∀ x H', Same H H' → ML y (Cs ++ Ds) x H' → Q x H') : te σ H fun z H1 => rCat x z H1 Q := by
  refine h H _ trivial fun z H1 e1 mz => ?_
  obtain ⟨p, xs, rfl, h1, h2⟩ := m.to e1
  obtain ⟨p', ys, rfl, k1, k2⟩ := mz
  have l1 := h2.len
  have l2 := k2.len
  refine ⟨p, p', xs, ys, rfl, rfl, h1, k1, by rw [sizeLine_eq]; omega, fun r hr => ?_⟩
  have e2 := same_new' (o := .lst (xs ++ ys)) hr
  exact q _ _ (e1.trans e2) ⟨r, _, rfl, upd_same, (h2.app k2).to e2⟩
abbrev Kept (S : Hp → Prop) : Prop := ∀ H H', S H → Same H H' → S H'
theorem Eva.snil : Eva S (Eda []) tNil σ := fun H Q _ q => q _ H (Same.refl H) .nil
theorem Eva.scons (st : Kept S) (h : Ev S (Ed d) te σ) (r : Eva S (Eda ds) ta σ) : Eva S (Eda (d :: ds)) (tCons te ta) σ := fun H Q s q => h H _ s fun x H1 e1 p1 => r H1 _ (st _ _ s e1) fun xs H2 e2 p2 => q _ H2 (e1.trans e2) (.cons (Dt.to p1 e2) p2)
theorem Ev.slst (h : Eva S (Eda ds) ta σ) (hn : ds.length ≤ 1000) : Ev S (Ed (.list ds)) (tLst ta) σ := fun H Q s q => h H _ s fun xs H1 e1 p1 => by
  have p1 : DtAll H1 xs ds := p1
  refine ⟨by rw [p1.len, sizeLine_eq]; omega, fun p hp => ?_⟩
  have e2 := same_new' (o := .lst xs) hp
  exact q _ _ (e1.trans e2) (Dt.lst upd_same (p1.to e2))
theorem scat (st : Kept S) {x : V} {H : Hp} {Q : VK} (m : Dt H x (.list ds)) (s : S H) (hx : σ[i]? = some (some x)) (h : Ev S (Ed (.list es)) te σ) (hn : ds.length + es.length ≤ 1000) (q : ∀ x H', Same H H' → Dt H' x (.list (ds ++ es)) → Q x H') : tOp rCat (tVar i) te σ H Q := by
  refine ⟨x, hx, h H _ s fun z H1 e1 mz => ?_⟩
  have m := m.to e1
  have mz : Dt H1 z (.list es) := mz
  cases m with
  | @lst p xs _ h1 h2 =>
  cases mz with
  | @lst p' ys _ k1 k2 =>
  have l1 := h2.len
  have l2 := k2.len
  refine ⟨p, p', xs, ys, rfl, rfl, h1, k1, by rw [sizeLine_eq]; omega, fun r hr => ?_⟩
  have e2 := same_new' (o := .lst (xs ++ ys)) hr
  exact q _ _ (e1.trans e2) (.lst upd_same ((h2.app k2).to e2))
/-- an exception of the class at C, its dict at d, if it has one -/
def SX (a C : Addr) (d : Option Addr) (H : Hp) : Prop := H a = some (exo a C d) ∧ ∀ e, d = some e → ∃ fs, H e = some (exd e fs)
theorem SX.kept {a C : Addr} {d : Option Addr} : Kept (SX a C d) := fun H H' s e => ⟨e _ _ s.1, fun b hb => by
  obtain ⟨fs, h⟩ := s.2 b hb
  exact ⟨fs, e _ _ h⟩⟩
theorem Ev.isx {a C D : Addr} {d : Option Addr} {b : Bool} (T : XcF K C) (hk : PySem.W.kitOne K (.ref C) (.ref D) = some b) (h : σ[i]? = some (some (.ref a))) :
    Ev (SX a C d) (Ed (.bool b)) (tCB (rIsX K) (tCons (tVar i) (tCons (tC (.ref D)) tNil))) σ := fun H Q s q => ⟨_, h, a, C, d, .ref D, .ref D, b, rfl, .own D, T, s.1, s.2, hk, q _ H (Same.refl H) (.bl b)⟩
end
end Hw

set_option Elab.async false
set_option linter.all false
set_option maxRecDepth 100000
set_option maxHeartbeats 4000000

namespace K05
open PySem PySem.Spec PyProof.Rows L2 Hw
def topS (i : Nat) : Stmt := PySem.Challenge.pw_howeverwide_k05_errors_by_their_classes.main.body.getD i (.Pass ⟨0, 0, 0, 0⟩)
abbrev s_law_hash : Stmt := topS 22
theorem sc_law_hash : FnScope ["_law_seed", "_law_index", "_law_mixed"] ["_law_seed", "_law_index"] (defScope s_law_hash) := ⟨rfl, rfl, rfl, by decide +kernel, rfl, by decide +kernel, by decide +kernel⟩
abbrev s_law_random : Stmt := topS 23
theorem sc_law_random : FnScope ["_law_generator_here", "_law_bound", "_law_drawn", "_law_turn"] ["_law_generator_here", "_law_bound"] (defScope s_law_random) := ⟨rfl, rfl, rfl, by decide +kernel, rfl, by decide +kernel, by decide +kernel⟩
abbrev s_law_cell : Stmt := topS 24
theorem sc_law_cell : FnScope ["_law_script", "_law_index"] ["_law_script", "_law_index"] (defScope s_law_cell) := ⟨rfl, rfl, rfl, by decide +kernel, rfl, by decide +kernel, by decide +kernel⟩
abbrev s_law_generator : Stmt := topS 25
theorem sc_law_generator : FnScope ["_law_script", "_law_index", "_law_seed"] ["_law_script", "_law_index"] (defScope s_law_generator) := ⟨rfl, rfl, rfl, by decide +kernel, rfl, by decide +kernel, by decide +kernel⟩
abbrev s_law_made : Stmt := topS 26
theorem sc_law_made : FnScope ["_law_value_now", "_law_found"] ["_law_value_now"] (defScope s_law_made) := ⟨rfl, rfl, rfl, by decide +kernel, rfl, by decide +kernel, by decide +kernel⟩
abbrev s_law_by_name : Stmt := topS 27
theorem sc_law_by_name : FnScope ["_law_value_now", "_law_found"] ["_law_value_now"] (defScope s_law_by_name) := ⟨rfl, rfl, rfl, by decide +kernel, rfl, by decide +kernel, by decide +kernel⟩
abbrev s_law_empty : Stmt := topS 28
theorem sc_law_empty : FnScope ["_law_found"] [] (defScope s_law_empty) := ⟨rfl, rfl, rfl, by decide +kernel, rfl, by decide +kernel, by decide +kernel⟩
abbrev s_law_kinds : Stmt := topS 29
theorem sc_law_kinds : FnScope ["_law_error", "_law_found"] ["_law_error"] (defScope s_law_kinds) := ⟨rfl, rfl, rfl, by decide +kernel, rfl, by decide +kernel, by decide +kernel⟩
abbrev s_law_row_right : Stmt := topS 30
theorem sc_law_row_right : FnScope ["_law_made_here", "_law_value_now", "_law_at", "_law_error", "_law_place"] ["_law_made_here", "_law_value_now"] (defScope s_law_row_right) := ⟨rfl, rfl, rfl, by decide +kernel, rfl, by decide +kernel, by decide +kernel⟩
abbrev s_law : Stmt := topS 31
theorem sc_law : FnScope ["_law_script", "_law_generator_here", "_law_number", "_law_value_now", "_law_odd", "_law_grown", "_law_error", "_law_at", "_law_place"] ["_law_script"] (defScope s_law) := ⟨rfl, rfl, rfl, by decide +kernel, rfl, by decide +kernel, by decide +kernel⟩
abbrev s_init_InvalidNumber : Stmt := (C8.clsBody (topS 2)).getD 0 (.Pass ⟨0, 0, 0, 0⟩)
theorem sc_init_InvalidNumber : FnScope ["self", "value"] ["self", "value"] (defScope s_init_InvalidNumber) := ⟨rfl, rfl, rfl, by decide +kernel, rfl, by decide +kernel, by decide +kernel⟩
abbrev s_init_InvalidName : Stmt := (C8.clsBody (topS 3)).getD 0 (.Pass ⟨0, 0, 0, 0⟩)
theorem sc_init_InvalidName : FnScope ["self", "value"] ["self", "value"] (defScope s_init_InvalidName) := ⟨rfl, rfl, rfl, by decide +kernel, rfl, by decide +kernel, by decide +kernel⟩
abbrev s_init_InvalidWidth : Stmt := (C8.clsBody (topS 4)).getD 0 (.Pass ⟨0, 0, 0, 0⟩)
theorem sc_init_InvalidWidth : FnScope ["self", "value"] ["self", "value"] (defScope s_init_InvalidWidth) := ⟨rfl, rfl, rfl, by decide +kernel, rfl, by decide +kernel, by decide +kernel⟩
abbrev s_init_InvalidWord : Stmt := (C8.clsBody (topS 5)).getD 0 (.Pass ⟨0, 0, 0, 0⟩)
theorem sc_init_InvalidWord : FnScope ["self", "value"] ["self", "value"] (defScope s_init_InvalidWord) := ⟨rfl, rfl, rfl, by decide +kernel, rfl, by decide +kernel, by decide +kernel⟩
abbrev s_init_InvalidExpression : Stmt := (C8.clsBody (topS 6)).getD 0 (.Pass ⟨0, 0, 0, 0⟩)
theorem sc_init_InvalidExpression : FnScope ["self", "value"] ["self", "value"] (defScope s_init_InvalidExpression) := ⟨rfl, rfl, rfl, by decide +kernel, rfl, by decide +kernel, by decide +kernel⟩
abbrev s_init_InvalidClaim : Stmt := (C8.clsBody (topS 7)).getD 0 (.Pass ⟨0, 0, 0, 0⟩)
theorem sc_init_InvalidClaim : FnScope ["self", "value"] ["self", "value"] (defScope s_init_InvalidClaim) := ⟨rfl, rfl, rfl, by decide +kernel, rfl, by decide +kernel, by decide +kernel⟩
abbrev s_init_InvalidClaims : Stmt := (C8.clsBody (topS 8)).getD 0 (.Pass ⟨0, 0, 0, 0⟩)
theorem sc_init_InvalidClaims : FnScope ["self", "value"] ["self", "value"] (defScope s_init_InvalidClaims) := ⟨rfl, rfl, rfl, by decide +kernel, rfl, by decide +kernel, by decide +kernel⟩
abbrev s_init_InvalidFilling : Stmt := (C8.clsBody (topS 9)).getD 0 (.Pass ⟨0, 0, 0, 0⟩)
theorem sc_init_InvalidFilling : FnScope ["self", "value"] ["self", "value"] (defScope s_init_InvalidFilling) := ⟨rfl, rfl, rfl, by decide +kernel, rfl, by decide +kernel, by decide +kernel⟩
abbrev s_init_InvalidTable : Stmt := (C8.clsBody (topS 10)).getD 0 (.Pass ⟨0, 0, 0, 0⟩)
theorem sc_init_InvalidTable : FnScope ["self", "value"] ["self", "value"] (defScope s_init_InvalidTable) := ⟨rfl, rfl, rfl, by decide +kernel, rfl, by decide +kernel, by decide +kernel⟩
abbrev s_init_InvalidNames : Stmt := (C8.clsBody (topS 11)).getD 0 (.Pass ⟨0, 0, 0, 0⟩)
theorem sc_init_InvalidNames : FnScope ["self", "value"] ["self", "value"] (defScope s_init_InvalidNames) := ⟨rfl, rfl, rfl, by decide +kernel, rfl, by decide +kernel, by decide +kernel⟩
abbrev s_init_InvalidWidths : Stmt := (C8.clsBody (topS 12)).getD 0 (.Pass ⟨0, 0, 0, 0⟩)
theorem sc_init_InvalidWidths : FnScope ["self", "value"] ["self", "value"] (defScope s_init_InvalidWidths) := ⟨rfl, rfl, rfl, by decide +kernel, rfl, by decide +kernel, by decide +kernel⟩
abbrev s_init_InvalidPaper : Stmt := (C8.clsBody (topS 13)).getD 0 (.Pass ⟨0, 0, 0, 0⟩)
theorem sc_init_InvalidPaper : FnScope ["self", "value"] ["self", "value"] (defScope s_init_InvalidPaper) := ⟨rfl, rfl, rfl, by decide +kernel, rfl, by decide +kernel, by decide +kernel⟩
abbrev s_init_InvalidMachine : Stmt := (C8.clsBody (topS 14)).getD 0 (.Pass ⟨0, 0, 0, 0⟩)
theorem sc_init_InvalidMachine : FnScope ["self", "value"] ["self", "value"] (defScope s_init_InvalidMachine) := ⟨rfl, rfl, rfl, by decide +kernel, rfl, by decide +kernel, by decide +kernel⟩
abbrev s_init_InvalidText : Stmt := (C8.clsBody (topS 15)).getD 0 (.Pass ⟨0, 0, 0, 0⟩)
theorem sc_init_InvalidText : FnScope ["self", "value"] ["self", "value"] (defScope s_init_InvalidText) := ⟨rfl, rfl, rfl, by decide +kernel, rfl, by decide +kernel, by decide +kernel⟩
abbrev s_init_InvalidDeed : Stmt := (C8.clsBody (topS 16)).getD 0 (.Pass ⟨0, 0, 0, 0⟩)
theorem sc_init_InvalidDeed : FnScope ["self", "value"] ["self", "value"] (defScope s_init_InvalidDeed) := ⟨rfl, rfl, rfl, by decide +kernel, rfl, by decide +kernel, by decide +kernel⟩
abbrev s_init_Unlike : Stmt := (C8.clsBody (topS 17)).getD 0 (.Pass ⟨0, 0, 0, 0⟩)
theorem sc_init_Unlike : FnScope ["self", "value"] ["self", "value"] (defScope s_init_Unlike) := ⟨rfl, rfl, rfl, by decide +kernel, rfl, by decide +kernel, by decide +kernel⟩
abbrev s_init_TooMany : Stmt := (C8.clsBody (topS 18)).getD 0 (.Pass ⟨0, 0, 0, 0⟩)
theorem sc_init_TooMany : FnScope ["self", "value"] ["self", "value"] (defScope s_init_TooMany) := ⟨rfl, rfl, rfl, by decide +kernel, rfl, by decide +kernel, by decide +kernel⟩
structure Tx (K : PySem.W.Frag) (mg : Str → Option Value) where
  a_law_hash : Addr
  d_law_hash : FuncData
  F_law_hash : DefAt K "_law_hash" s_law_hash a_law_hash d_law_hash
  g_law_hash : mg "_law_hash" = some (.ref a_law_hash)
  a_law_random : Addr
  d_law_random : FuncData
  F_law_random : DefAt K "_law_random" s_law_random a_law_random d_law_random
  g_law_random : mg "_law_random" = some (.ref a_law_random)
  a_law_cell : Addr
  d_law_cell : FuncData
  F_law_cell : DefAt K "_law_cell" s_law_cell a_law_cell d_law_cell
  g_law_cell : mg "_law_cell" = some (.ref a_law_cell)
  a_law_generator : Addr
  d_law_generator : FuncData
  F_law_generator : DefAt K "_law_generator" s_law_generator a_law_generator d_law_generator
  g_law_generator : mg "_law_generator" = some (.ref a_law_generator)
  a_law_made : Addr
  d_law_made : FuncData
  F_law_made : DefAt K "_law_made" s_law_made a_law_made d_law_made
  g_law_made : mg "_law_made" = some (.ref a_law_made)
  a_law_by_name : Addr
  d_law_by_name : FuncData
  F_law_by_name : DefAt K "_law_by_name" s_law_by_name a_law_by_name d_law_by_name
  g_law_by_name : mg "_law_by_name" = some (.ref a_law_by_name)
  a_law_empty : Addr
  d_law_empty : FuncData
  F_law_empty : DefAt K "_law_empty" s_law_empty a_law_empty d_law_empty
  g_law_empty : mg "_law_empty" = some (.ref a_law_empty)
  a_law_kinds : Addr
  d_law_kinds : FuncData
  F_law_kinds : DefAt K "_law_kinds" s_law_kinds a_law_kinds d_law_kinds
  g_law_kinds : mg "_law_kinds" = some (.ref a_law_kinds)
  a_law_row_right : Addr
  d_law_row_right : FuncData
  F_law_row_right : DefAt K "_law_row_right" s_law_row_right a_law_row_right d_law_row_right
  g_law_row_right : mg "_law_row_right" = some (.ref a_law_row_right)
  a_law : Addr
  d_law : FuncData
  F_law : DefAt K "law" s_law a_law d_law
  g_law : mg "law" = some (.ref a_law)
  z_ValueError : mg "ValueError" = none
  z_enumerate : mg "enumerate" = none
  z_int : mg "int" = none
  z_isinstance : mg "isinstance" = none
  z_len : mg "len" = none
  z_max : mg "max" = none
  z_range : mg "range" = none
  z_repr : mg "repr" = none
  z_sum : mg "sum" = none
  c_ClaimError : Addr
  k_ClaimError : mg "ClaimError" = some (.ref c_ClaimError)
  c_InvalidNumber : Addr
  k_InvalidNumber : mg "InvalidNumber" = some (.ref c_InvalidNumber)
  x_InvalidNumber : XcF K c_InvalidNumber
  c_InvalidName : Addr
  k_InvalidName : mg "InvalidName" = some (.ref c_InvalidName)
  x_InvalidName : XcF K c_InvalidName
  c_InvalidWidth : Addr
  k_InvalidWidth : mg "InvalidWidth" = some (.ref c_InvalidWidth)
  x_InvalidWidth : XcF K c_InvalidWidth
  c_InvalidWord : Addr
  k_InvalidWord : mg "InvalidWord" = some (.ref c_InvalidWord)
  x_InvalidWord : XcF K c_InvalidWord
  c_InvalidExpression : Addr
  k_InvalidExpression : mg "InvalidExpression" = some (.ref c_InvalidExpression)
  x_InvalidExpression : XcF K c_InvalidExpression
  c_InvalidClaim : Addr
  k_InvalidClaim : mg "InvalidClaim" = some (.ref c_InvalidClaim)
  x_InvalidClaim : XcF K c_InvalidClaim
  c_InvalidClaims : Addr
  k_InvalidClaims : mg "InvalidClaims" = some (.ref c_InvalidClaims)
  x_InvalidClaims : XcF K c_InvalidClaims
  c_InvalidFilling : Addr
  k_InvalidFilling : mg "InvalidFilling" = some (.ref c_InvalidFilling)
  x_InvalidFilling : XcF K c_InvalidFilling
  c_InvalidTable : Addr
  k_InvalidTable : mg "InvalidTable" = some (.ref c_InvalidTable)
  x_InvalidTable : XcF K c_InvalidTable
  c_InvalidNames : Addr
  k_InvalidNames : mg "InvalidNames" = some (.ref c_InvalidNames)
  x_InvalidNames : XcF K c_InvalidNames
  c_InvalidWidths : Addr
  k_InvalidWidths : mg "InvalidWidths" = some (.ref c_InvalidWidths)
  x_InvalidWidths : XcF K c_InvalidWidths
  c_InvalidPaper : Addr
  k_InvalidPaper : mg "InvalidPaper" = some (.ref c_InvalidPaper)
  x_InvalidPaper : XcF K c_InvalidPaper
  c_InvalidMachine : Addr
  k_InvalidMachine : mg "InvalidMachine" = some (.ref c_InvalidMachine)
  x_InvalidMachine : XcF K c_InvalidMachine
  c_InvalidText : Addr
  k_InvalidText : mg "InvalidText" = some (.ref c_InvalidText)
  x_InvalidText : XcF K c_InvalidText
  c_InvalidDeed : Addr
  k_InvalidDeed : mg "InvalidDeed" = some (.ref c_InvalidDeed)
  x_InvalidDeed : XcF K c_InvalidDeed
  c_Unlike : Addr
  k_Unlike : mg "Unlike" = some (.ref c_Unlike)
  x_Unlike : XcF K c_Unlike
  c_TooMany : Addr
  k_TooMany : mg "TooMany" = some (.ref c_TooMany)
  x_TooMany : XcF K c_TooMany
  c_NothingToUndo : Addr
  k_NothingToUndo : mg "NothingToUndo" = some (.ref c_NothingToUndo)
  x_NothingToUndo : XcF K c_NothingToUndo
  c_NothingToRedo : Addr
  k_NothingToRedo : mg "NothingToRedo" = some (.ref c_NothingToRedo)
  x_NothingToRedo : XcF K c_NothingToRedo
  f_InvalidNumber : Addr
  e_InvalidNumber : FuncData
  i_InvalidNumber : PySem.W.findIn K (.ref c_InvalidNumber) "__init__" = some (some (.ref f_InvalidNumber))
  t_InvalidNumber : PySem.W.typeIn K (.ref f_InvalidNumber) = some (.type "function")
  I_InvalidNumber : FunD K "__init__" "InvalidNumber.__init__" (defArgs s_init_InvalidNumber) (defBody s_init_InvalidNumber) (defScope s_init_InvalidNumber) [.non] [] f_InvalidNumber e_InvalidNumber
  f_InvalidName : Addr
  e_InvalidName : FuncData
  i_InvalidName : PySem.W.findIn K (.ref c_InvalidName) "__init__" = some (some (.ref f_InvalidName))
  t_InvalidName : PySem.W.typeIn K (.ref f_InvalidName) = some (.type "function")
  I_InvalidName : FunD K "__init__" "InvalidName.__init__" (defArgs s_init_InvalidName) (defBody s_init_InvalidName) (defScope s_init_InvalidName) [.non] [] f_InvalidName e_InvalidName
  f_InvalidWidth : Addr
  e_InvalidWidth : FuncData
  i_InvalidWidth : PySem.W.findIn K (.ref c_InvalidWidth) "__init__" = some (some (.ref f_InvalidWidth))
  t_InvalidWidth : PySem.W.typeIn K (.ref f_InvalidWidth) = some (.type "function")
  I_InvalidWidth : FunD K "__init__" "InvalidWidth.__init__" (defArgs s_init_InvalidWidth) (defBody s_init_InvalidWidth) (defScope s_init_InvalidWidth) [.non] [] f_InvalidWidth e_InvalidWidth
  f_InvalidWord : Addr
  e_InvalidWord : FuncData
  i_InvalidWord : PySem.W.findIn K (.ref c_InvalidWord) "__init__" = some (some (.ref f_InvalidWord))
  t_InvalidWord : PySem.W.typeIn K (.ref f_InvalidWord) = some (.type "function")
  I_InvalidWord : FunD K "__init__" "InvalidWord.__init__" (defArgs s_init_InvalidWord) (defBody s_init_InvalidWord) (defScope s_init_InvalidWord) [.non] [] f_InvalidWord e_InvalidWord
  f_InvalidExpression : Addr
  e_InvalidExpression : FuncData
  i_InvalidExpression : PySem.W.findIn K (.ref c_InvalidExpression) "__init__" = some (some (.ref f_InvalidExpression))
  t_InvalidExpression : PySem.W.typeIn K (.ref f_InvalidExpression) = some (.type "function")
  I_InvalidExpression : FunD K "__init__" "InvalidExpression.__init__" (defArgs s_init_InvalidExpression) (defBody s_init_InvalidExpression) (defScope s_init_InvalidExpression) [.non] [] f_InvalidExpression e_InvalidExpression
  f_InvalidClaim : Addr
  e_InvalidClaim : FuncData
  i_InvalidClaim : PySem.W.findIn K (.ref c_InvalidClaim) "__init__" = some (some (.ref f_InvalidClaim))
  t_InvalidClaim : PySem.W.typeIn K (.ref f_InvalidClaim) = some (.type "function")
  I_InvalidClaim : FunD K "__init__" "InvalidClaim.__init__" (defArgs s_init_InvalidClaim) (defBody s_init_InvalidClaim) (defScope s_init_InvalidClaim) [.non] [] f_InvalidClaim e_InvalidClaim
  f_InvalidClaims : Addr
  e_InvalidClaims : FuncData
  i_InvalidClaims : PySem.W.findIn K (.ref c_InvalidClaims) "__init__" = some (some (.ref f_InvalidClaims))
  t_InvalidClaims : PySem.W.typeIn K (.ref f_InvalidClaims) = some (.type "function")
  I_InvalidClaims : FunD K "__init__" "InvalidClaims.__init__" (defArgs s_init_InvalidClaims) (defBody s_init_InvalidClaims) (defScope s_init_InvalidClaims) [.non] [] f_InvalidClaims e_InvalidClaims
  f_InvalidFilling : Addr
  e_InvalidFilling : FuncData
  i_InvalidFilling : PySem.W.findIn K (.ref c_InvalidFilling) "__init__" = some (some (.ref f_InvalidFilling))
  t_InvalidFilling : PySem.W.typeIn K (.ref f_InvalidFilling) = some (.type "function")
  I_InvalidFilling : FunD K "__init__" "InvalidFilling.__init__" (defArgs s_init_InvalidFilling) (defBody s_init_InvalidFilling) (defScope s_init_InvalidFilling) [.non] [] f_InvalidFilling e_InvalidFilling
  f_InvalidTable : Addr
  e_InvalidTable : FuncData
  i_InvalidTable : PySem.W.findIn K (.ref c_InvalidTable) "__init__" = some (some (.ref f_InvalidTable))
  t_InvalidTable : PySem.W.typeIn K (.ref f_InvalidTable) = some (.type "function")
  I_InvalidTable : FunD K "__init__" "InvalidTable.__init__" (defArgs s_init_InvalidTable) (defBody s_init_InvalidTable) (defScope s_init_InvalidTable) [.non] [] f_InvalidTable e_InvalidTable
  f_InvalidNames : Addr
  e_InvalidNames : FuncData
  i_InvalidNames : PySem.W.findIn K (.ref c_InvalidNames) "__init__" = some (some (.ref f_InvalidNames))
  t_InvalidNames : PySem.W.typeIn K (.ref f_InvalidNames) = some (.type "function")
  I_InvalidNames : FunD K "__init__" "InvalidNames.__init__" (defArgs s_init_InvalidNames) (defBody s_init_InvalidNames) (defScope s_init_InvalidNames) [.non] [] f_InvalidNames e_InvalidNames
  f_InvalidWidths : Addr
  e_InvalidWidths : FuncData
  i_InvalidWidths : PySem.W.findIn K (.ref c_InvalidWidths) "__init__" = some (some (.ref f_InvalidWidths))
  t_InvalidWidths : PySem.W.typeIn K (.ref f_InvalidWidths) = some (.type "function")
  I_InvalidWidths : FunD K "__init__" "InvalidWidths.__init__" (defArgs s_init_InvalidWidths) (defBody s_init_InvalidWidths) (defScope s_init_InvalidWidths) [.non] [] f_InvalidWidths e_InvalidWidths
  f_InvalidPaper : Addr
  e_InvalidPaper : FuncData
  i_InvalidPaper : PySem.W.findIn K (.ref c_InvalidPaper) "__init__" = some (some (.ref f_InvalidPaper))
  t_InvalidPaper : PySem.W.typeIn K (.ref f_InvalidPaper) = some (.type "function")
  I_InvalidPaper : FunD K "__init__" "InvalidPaper.__init__" (defArgs s_init_InvalidPaper) (defBody s_init_InvalidPaper) (defScope s_init_InvalidPaper) [.non] [] f_InvalidPaper e_InvalidPaper
  f_InvalidMachine : Addr
  e_InvalidMachine : FuncData
  i_InvalidMachine : PySem.W.findIn K (.ref c_InvalidMachine) "__init__" = some (some (.ref f_InvalidMachine))
  t_InvalidMachine : PySem.W.typeIn K (.ref f_InvalidMachine) = some (.type "function")
  I_InvalidMachine : FunD K "__init__" "InvalidMachine.__init__" (defArgs s_init_InvalidMachine) (defBody s_init_InvalidMachine) (defScope s_init_InvalidMachine) [.non] [] f_InvalidMachine e_InvalidMachine
  f_InvalidText : Addr
  e_InvalidText : FuncData
  i_InvalidText : PySem.W.findIn K (.ref c_InvalidText) "__init__" = some (some (.ref f_InvalidText))
  t_InvalidText : PySem.W.typeIn K (.ref f_InvalidText) = some (.type "function")
  I_InvalidText : FunD K "__init__" "InvalidText.__init__" (defArgs s_init_InvalidText) (defBody s_init_InvalidText) (defScope s_init_InvalidText) [.non] [] f_InvalidText e_InvalidText
  f_InvalidDeed : Addr
  e_InvalidDeed : FuncData
  i_InvalidDeed : PySem.W.findIn K (.ref c_InvalidDeed) "__init__" = some (some (.ref f_InvalidDeed))
  t_InvalidDeed : PySem.W.typeIn K (.ref f_InvalidDeed) = some (.type "function")
  I_InvalidDeed : FunD K "__init__" "InvalidDeed.__init__" (defArgs s_init_InvalidDeed) (defBody s_init_InvalidDeed) (defScope s_init_InvalidDeed) [.non] [] f_InvalidDeed e_InvalidDeed
  f_Unlike : Addr
  e_Unlike : FuncData
  i_Unlike : PySem.W.findIn K (.ref c_Unlike) "__init__" = some (some (.ref f_Unlike))
  t_Unlike : PySem.W.typeIn K (.ref f_Unlike) = some (.type "function")
  I_Unlike : FunD K "__init__" "Unlike.__init__" (defArgs s_init_Unlike) (defBody s_init_Unlike) (defScope s_init_Unlike) [.non] [] f_Unlike e_Unlike
  f_TooMany : Addr
  e_TooMany : FuncData
  i_TooMany : PySem.W.findIn K (.ref c_TooMany) "__init__" = some (some (.ref f_TooMany))
  t_TooMany : PySem.W.typeIn K (.ref f_TooMany) = some (.type "function")
  I_TooMany : FunD K "__init__" "TooMany.__init__" (defArgs s_init_TooMany) (defBody s_init_TooMany) (defScope s_init_TooMany) [.non] [] f_TooMany e_TooMany
  q_NothingToUndo : PySem.W.excIn K c_NothingToUndo He.veBase "ValueError.__new__" = true
  q_NothingToRedo : PySem.W.excIn K c_NothingToRedo He.veBase "ValueError.__new__" = true
  kit : ∀ (i j : Nat) (x y : Addr), ([c_InvalidNumber, c_InvalidName, c_InvalidWidth, c_InvalidWord, c_InvalidExpression, c_InvalidClaim, c_InvalidClaims, c_InvalidFilling, c_InvalidTable, c_InvalidNames, c_InvalidWidths, c_InvalidPaper, c_InvalidMachine, c_InvalidText, c_InvalidDeed, c_Unlike, c_TooMany, c_NothingToUndo, c_NothingToRedo] : List Addr)[i]? = some x → ([c_InvalidNumber, c_InvalidName, c_InvalidWidth, c_InvalidWord, c_InvalidExpression, c_InvalidClaim, c_InvalidClaims, c_InvalidFilling, c_InvalidTable, c_InvalidNames, c_InvalidWidths, c_InvalidPaper, c_InvalidMachine, c_InvalidText, c_InvalidDeed, c_Unlike, c_TooMany, c_NothingToUndo, c_NothingToRedo] : List Addr)[j]? = some y → PySem.W.kitOne K (.ref x) (.ref y) = some (decide (i = j))
  kitC : ∀ x ∈ ([c_InvalidNumber, c_InvalidName, c_InvalidWidth, c_InvalidWord, c_InvalidExpression, c_InvalidClaim, c_InvalidClaims, c_InvalidFilling, c_InvalidTable, c_InvalidNames, c_InvalidWidths, c_InvalidPaper, c_InvalidMachine, c_InvalidText, c_InvalidDeed, c_Unlike, c_TooMany, c_NothingToUndo, c_NothingToRedo] : List Addr), PySem.W.kitOne K (.ref x) (.ref c_ClaimError) = some true
  kitV : ∀ x ∈ ([c_InvalidNumber, c_InvalidName, c_InvalidWidth, c_InvalidWord, c_InvalidExpression, c_InvalidClaim, c_InvalidClaims, c_InvalidFilling, c_InvalidTable, c_InvalidNames, c_InvalidWidths, c_InvalidPaper, c_InvalidMachine, c_InvalidText, c_InvalidDeed, c_Unlike, c_TooMany, c_NothingToUndo, c_NothingToRedo] : List Addr), PySem.W.kitOne K (.ref x) (.type "ValueError") = some true
section
variable {K : PySem.W.Frag} {mg : Str → Option Value}
theorem Tx.b_law_hash (T : Tx K mg) : Binds K T.d_law_hash ["_law_seed", "_law_index"] [] := T.F_law_hash.bindsN fun _ _ _ _ _ _ us hl => match us, hl with | [_, _], _ => rfl
theorem Tx.b_law_random (T : Tx K mg) : Binds K T.d_law_random ["_law_generator_here", "_law_bound"] [] := T.F_law_random.bindsN fun _ _ _ _ _ _ us hl => match us, hl with | [_, _], _ => rfl
theorem Tx.b_law_cell (T : Tx K mg) : Binds K T.d_law_cell ["_law_script", "_law_index"] [] := T.F_law_cell.bindsN fun _ _ _ _ _ _ us hl => match us, hl with | [_, _], _ => rfl
theorem Tx.b_law_generator (T : Tx K mg) : Binds K T.d_law_generator ["_law_script", "_law_index"] [] := T.F_law_generator.bindsN fun _ _ _ _ _ _ us hl => match us, hl with | [_, _], _ => rfl
theorem Tx.b_law_made (T : Tx K mg) : Binds K T.d_law_made ["_law_value_now"] [] := T.F_law_made.bindsN fun _ _ _ _ _ _ us hl => match us, hl with | [_], _ => rfl
theorem Tx.b_law_by_name (T : Tx K mg) : Binds K T.d_law_by_name ["_law_value_now"] [] := T.F_law_by_name.bindsN fun _ _ _ _ _ _ us hl => match us, hl with | [_], _ => rfl
theorem Tx.b_law_empty (T : Tx K mg) : Binds K T.d_law_empty [] [] := T.F_law_empty.bindsN fun _ _ _ _ _ _ us hl => match us, hl with | [], _ => rfl
theorem Tx.b_law_kinds (T : Tx K mg) : Binds K T.d_law_kinds ["_law_error"] [] := T.F_law_kinds.bindsN fun _ _ _ _ _ _ us hl => match us, hl with | [_], _ => rfl
theorem Tx.b_law_row_right (T : Tx K mg) : Binds K T.d_law_row_right ["_law_made_here", "_law_value_now"] [] := T.F_law_row_right.bindsN fun _ _ _ _ _ _ us hl => match us, hl with | [_, _], _ => rfl
theorem Tx.b_law (T : Tx K mg) : Binds K T.d_law ["_law_script"] [] := T.F_law.bindsN fun _ _ _ _ _ _ us hl => match us, hl with | [_], _ => rfl
theorem Tx.kk_InvalidNumber (T : Tx K mg) : ∃ u, mg "InvalidNumber" = some u ∧ RelV (.ref T.c_InvalidNumber) u := ⟨_, T.k_InvalidNumber, rfl⟩
theorem Tx.kk_InvalidName (T : Tx K mg) : ∃ u, mg "InvalidName" = some u ∧ RelV (.ref T.c_InvalidName) u := ⟨_, T.k_InvalidName, rfl⟩
theorem Tx.kk_InvalidWidth (T : Tx K mg) : ∃ u, mg "InvalidWidth" = some u ∧ RelV (.ref T.c_InvalidWidth) u := ⟨_, T.k_InvalidWidth, rfl⟩
theorem Tx.kk_InvalidWord (T : Tx K mg) : ∃ u, mg "InvalidWord" = some u ∧ RelV (.ref T.c_InvalidWord) u := ⟨_, T.k_InvalidWord, rfl⟩
theorem Tx.kk_InvalidExpression (T : Tx K mg) : ∃ u, mg "InvalidExpression" = some u ∧ RelV (.ref T.c_InvalidExpression) u := ⟨_, T.k_InvalidExpression, rfl⟩
theorem Tx.kk_InvalidClaim (T : Tx K mg) : ∃ u, mg "InvalidClaim" = some u ∧ RelV (.ref T.c_InvalidClaim) u := ⟨_, T.k_InvalidClaim, rfl⟩
theorem Tx.kk_InvalidClaims (T : Tx K mg) : ∃ u, mg "InvalidClaims" = some u ∧ RelV (.ref T.c_InvalidClaims) u := ⟨_, T.k_InvalidClaims, rfl⟩
theorem Tx.kk_InvalidFilling (T : Tx K mg) : ∃ u, mg "InvalidFilling" = some u ∧ RelV (.ref T.c_InvalidFilling) u := ⟨_, T.k_InvalidFilling, rfl⟩
theorem Tx.kk_InvalidTable (T : Tx K mg) : ∃ u, mg "InvalidTable" = some u ∧ RelV (.ref T.c_InvalidTable) u := ⟨_, T.k_InvalidTable, rfl⟩
theorem Tx.kk_InvalidNames (T : Tx K mg) : ∃ u, mg "InvalidNames" = some u ∧ RelV (.ref T.c_InvalidNames) u := ⟨_, T.k_InvalidNames, rfl⟩
theorem Tx.kk_InvalidWidths (T : Tx K mg) : ∃ u, mg "InvalidWidths" = some u ∧ RelV (.ref T.c_InvalidWidths) u := ⟨_, T.k_InvalidWidths, rfl⟩
theorem Tx.kk_InvalidPaper (T : Tx K mg) : ∃ u, mg "InvalidPaper" = some u ∧ RelV (.ref T.c_InvalidPaper) u := ⟨_, T.k_InvalidPaper, rfl⟩
theorem Tx.kk_InvalidMachine (T : Tx K mg) : ∃ u, mg "InvalidMachine" = some u ∧ RelV (.ref T.c_InvalidMachine) u := ⟨_, T.k_InvalidMachine, rfl⟩
theorem Tx.kk_InvalidText (T : Tx K mg) : ∃ u, mg "InvalidText" = some u ∧ RelV (.ref T.c_InvalidText) u := ⟨_, T.k_InvalidText, rfl⟩
theorem Tx.kk_InvalidDeed (T : Tx K mg) : ∃ u, mg "InvalidDeed" = some u ∧ RelV (.ref T.c_InvalidDeed) u := ⟨_, T.k_InvalidDeed, rfl⟩
theorem Tx.kk_Unlike (T : Tx K mg) : ∃ u, mg "Unlike" = some u ∧ RelV (.ref T.c_Unlike) u := ⟨_, T.k_Unlike, rfl⟩
theorem Tx.kk_TooMany (T : Tx K mg) : ∃ u, mg "TooMany" = some u ∧ RelV (.ref T.c_TooMany) u := ⟨_, T.k_TooMany, rfl⟩
theorem Tx.kk_NothingToUndo (T : Tx K mg) : ∃ u, mg "NothingToUndo" = some u ∧ RelV (.ref T.c_NothingToUndo) u := ⟨_, T.k_NothingToUndo, rfl⟩
theorem Tx.kk_NothingToRedo (T : Tx K mg) : ∃ u, mg "NothingToRedo" = some u ∧ RelV (.ref T.c_NothingToRedo) u := ⟨_, T.k_NothingToRedo, rfl⟩
theorem Tx.kk_ClaimError (T : Tx K mg) : ∃ u, mg "ClaimError" = some u ∧ RelV (.ref T.c_ClaimError) u := ⟨_, T.k_ClaimError, rfl⟩
def Tx.cl (T : Tx K mg) : List Addr := [T.c_InvalidNumber, T.c_InvalidName, T.c_InvalidWidth, T.c_InvalidWord, T.c_InvalidExpression, T.c_InvalidClaim, T.c_InvalidClaims, T.c_InvalidFilling, T.c_InvalidTable, T.c_InvalidNames, T.c_InvalidWidths, T.c_InvalidPaper, T.c_InvalidMachine, T.c_InvalidText, T.c_InvalidDeed, T.c_Unlike, T.c_TooMany, T.c_NothingToUndo, T.c_NothingToRedo]
def Tx.ci (T : Tx K mg) : List Addr := [T.c_InvalidNumber, T.c_InvalidName, T.c_InvalidWidth, T.c_InvalidWord, T.c_InvalidExpression, T.c_InvalidClaim, T.c_InvalidClaims, T.c_InvalidFilling, T.c_InvalidTable, T.c_InvalidNames, T.c_InvalidWidths, T.c_InvalidPaper, T.c_InvalidMachine, T.c_InvalidText, T.c_InvalidDeed, T.c_Unlike, T.c_TooMany]
end
section
variable {P : Program} {w : World} {K : PySem.W.Frag} {mg : Str → Option Value} {base : Heap}
theorem ok_init_InvalidNumber (T : Tx K mg) : FnG P w K mg base CX0 1 T.f_InvalidNumber T.e_InvalidNumber ["self", "value"] (spInit K) := by
  refine bodyG T.I_InvalidNumber sc_init_InvalidNumber (fun vs H Q E h => ?_) (fun cdv A outer s H vs Q E gd hr h => ?_)
  · obtain ⟨a, C, y, rfl, _⟩ := h; rfl
  · obtain ⟨a, C, y, rfl, T1, no, e, q⟩ := h
    exact ⟨_, pss_one (ps_ost (pv 0) (pv 1)), _, rfl, _, rfl, a, C, rfl, T1, no, .inl ⟨e, fun d hd nd => q d hd nd⟩⟩
theorem bi_InvalidNumber (T : Tx K mg) : IniB K T.e_InvalidNumber := iniB_of T.I_InvalidNumber (fun _ _ _ _ _ _ _ _ _ _ => ⟨_, rfl, rfl⟩) (fun _ _ _ _ _ _ _ _ _ => ⟨_, rfl, rfl⟩) (fun _ _ _ _ _ _ _ _ _ _ => ⟨_, rfl, rfl⟩)
theorem ok_init_InvalidName (T : Tx K mg) : FnG P w K mg base CX0 1 T.f_InvalidName T.e_InvalidName ["self", "value"] (spInit K) := by
  refine bodyG T.I_InvalidName sc_init_InvalidName (fun vs H Q E h => ?_) (fun cdv A outer s H vs Q E gd hr h => ?_)
  · obtain ⟨a, C, y, rfl, _⟩ := h; rfl
  · obtain ⟨a, C, y, rfl, T1, no, e, q⟩ := h
    exact ⟨_, pss_one (ps_ost (pv 0) (pv 1)), _, rfl, _, rfl, a, C, rfl, T1, no, .inl ⟨e, fun d hd nd => q d hd nd⟩⟩
theorem bi_InvalidName (T : Tx K mg) : IniB K T.e_InvalidName := iniB_of T.I_InvalidName (fun _ _ _ _ _ _ _ _ _ _ => ⟨_, rfl, rfl⟩) (fun _ _ _ _ _ _ _ _ _ => ⟨_, rfl, rfl⟩) (fun _ _ _ _ _ _ _ _ _ _ => ⟨_, rfl, rfl⟩)
theorem ok_init_InvalidWidth (T : Tx K mg) : FnG P w K mg base CX0 1 T.f_InvalidWidth T.e_InvalidWidth ["self", "value"] (spInit K) := by
  refine bodyG T.I_InvalidWidth sc_init_InvalidWidth (fun vs H Q E h => ?_) (fun cdv A outer s H vs Q E gd hr h => ?_)
  · obtain ⟨a, C, y, rfl, _⟩ := h; rfl
  · obtain ⟨a, C, y, rfl, T1, no, e, q⟩ := h
    exact ⟨_, pss_one (ps_ost (pv 0) (pv 1)), _, rfl, _, rfl, a, C, rfl, T1, no, .inl ⟨e, fun d hd nd => q d hd nd⟩⟩
theorem bi_InvalidWidth (T : Tx K mg) : IniB K T.e_InvalidWidth := iniB_of T.I_InvalidWidth (fun _ _ _ _ _ _ _ _ _ _ => ⟨_, rfl, rfl⟩) (fun _ _ _ _ _ _ _ _ _ => ⟨_, rfl, rfl⟩) (fun _ _ _ _ _ _ _ _ _ _ => ⟨_, rfl, rfl⟩)
theorem ok_init_InvalidWord (T : Tx K mg) : FnG P w K mg base CX0 1 T.f_InvalidWord T.e_InvalidWord ["self", "value"] (spInit K) := by
  refine bodyG T.I_InvalidWord sc_init_InvalidWord (fun vs H Q E h => ?_) (fun cdv A outer s H vs Q E gd hr h => ?_)
  · obtain ⟨a, C, y, rfl, _⟩ := h; rfl
  · obtain ⟨a, C, y, rfl, T1, no, e, q⟩ := h
    exact ⟨_, pss_one (ps_ost (pv 0) (pv 1)), _, rfl, _, rfl, a, C, rfl, T1, no, .inl ⟨e, fun d hd nd => q d hd nd⟩⟩
theorem bi_InvalidWord (T : Tx K mg) : IniB K T.e_InvalidWord := iniB_of T.I_InvalidWord (fun _ _ _ _ _ _ _ _ _ _ => ⟨_, rfl, rfl⟩) (fun _ _ _ _ _ _ _ _ _ => ⟨_, rfl, rfl⟩) (fun _ _ _ _ _ _ _ _ _ _ => ⟨_, rfl, rfl⟩)
theorem ok_init_InvalidExpression (T : Tx K mg) : FnG P w K mg base CX0 1 T.f_InvalidExpression T.e_InvalidExpression ["self", "value"] (spInit K) := by
  refine bodyG T.I_InvalidExpression sc_init_InvalidExpression (fun vs H Q E h => ?_) (fun cdv A outer s H vs Q E gd hr h => ?_)
  · obtain ⟨a, C, y, rfl, _⟩ := h; rfl
  · obtain ⟨a, C, y, rfl, T1, no, e, q⟩ := h
    exact ⟨_, pss_one (ps_ost (pv 0) (pv 1)), _, rfl, _, rfl, a, C, rfl, T1, no, .inl ⟨e, fun d hd nd => q d hd nd⟩⟩
theorem bi_InvalidExpression (T : Tx K mg) : IniB K T.e_InvalidExpression := iniB_of T.I_InvalidExpression (fun _ _ _ _ _ _ _ _ _ _ => ⟨_, rfl, rfl⟩) (fun _ _ _ _ _ _ _ _ _ => ⟨_, rfl, rfl⟩) (fun _ _ _ _ _ _ _ _ _ _ => ⟨_, rfl, rfl⟩)
theorem ok_init_InvalidClaim (T : Tx K mg) : FnG P w K mg base CX0 1 T.f_InvalidClaim T.e_InvalidClaim ["self", "value"] (spInit K) := by
  refine bodyG T.I_InvalidClaim sc_init_InvalidClaim (fun vs H Q E h => ?_) (fun cdv A outer s H vs Q E gd hr h => ?_)
  · obtain ⟨a, C, y, rfl, _⟩ := h; rfl
  · obtain ⟨a, C, y, rfl, T1, no, e, q⟩ := h
    exact ⟨_, pss_one (ps_ost (pv 0) (pv 1)), _, rfl, _, rfl, a, C, rfl, T1, no, .inl ⟨e, fun d hd nd => q d hd nd⟩⟩
theorem bi_InvalidClaim (T : Tx K mg) : IniB K T.e_InvalidClaim := iniB_of T.I_InvalidClaim (fun _ _ _ _ _ _ _ _ _ _ => ⟨_, rfl, rfl⟩) (fun _ _ _ _ _ _ _ _ _ => ⟨_, rfl, rfl⟩) (fun _ _ _ _ _ _ _ _ _ _ => ⟨_, rfl, rfl⟩)
theorem ok_init_InvalidClaims (T : Tx K mg) : FnG P w K mg base CX0 1 T.f_InvalidClaims T.e_InvalidClaims ["self", "value"] (spInit K) := by
  refine bodyG T.I_InvalidClaims sc_init_InvalidClaims (fun vs H Q E h => ?_) (fun cdv A outer s H vs Q E gd hr h => ?_)
  · obtain ⟨a, C, y, rfl, _⟩ := h; rfl
  · obtain ⟨a, C, y, rfl, T1, no, e, q⟩ := h
    exact ⟨_, pss_one (ps_ost (pv 0) (pv 1)), _, rfl, _, rfl, a, C, rfl, T1, no, .inl ⟨e, fun d hd nd => q d hd nd⟩⟩
theorem bi_InvalidClaims (T : Tx K mg) : IniB K T.e_InvalidClaims := iniB_of T.I_InvalidClaims (fun _ _ _ _ _ _ _ _ _ _ => ⟨_, rfl, rfl⟩) (fun _ _ _ _ _ _ _ _ _ => ⟨_, rfl, rfl⟩) (fun _ _ _ _ _ _ _ _ _ _ => ⟨_, rfl, rfl⟩)
theorem ok_init_InvalidFilling (T : Tx K mg) : FnG P w K mg base CX0 1 T.f_InvalidFilling T.e_InvalidFilling ["self", "value"] (spInit K) := by
  refine bodyG T.I_InvalidFilling sc_init_InvalidFilling (fun vs H Q E h => ?_) (fun cdv A outer s H vs Q E gd hr h => ?_)
  · obtain ⟨a, C, y, rfl, _⟩ := h; rfl
  · obtain ⟨a, C, y, rfl, T1, no, e, q⟩ := h
    exact ⟨_, pss_one (ps_ost (pv 0) (pv 1)), _, rfl, _, rfl, a, C, rfl, T1, no, .inl ⟨e, fun d hd nd => q d hd nd⟩⟩
theorem bi_InvalidFilling (T : Tx K mg) : IniB K T.e_InvalidFilling := iniB_of T.I_InvalidFilling (fun _ _ _ _ _ _ _ _ _ _ => ⟨_, rfl, rfl⟩) (fun _ _ _ _ _ _ _ _ _ => ⟨_, rfl, rfl⟩) (fun _ _ _ _ _ _ _ _ _ _ => ⟨_, rfl, rfl⟩)
theorem ok_init_InvalidTable (T : Tx K mg) : FnG P w K mg base CX0 1 T.f_InvalidTable T.e_InvalidTable ["self", "value"] (spInit K) := by
  refine bodyG T.I_InvalidTable sc_init_InvalidTable (fun vs H Q E h => ?_) (fun cdv A outer s H vs Q E gd hr h => ?_)
  · obtain ⟨a, C, y, rfl, _⟩ := h; rfl
  · obtain ⟨a, C, y, rfl, T1, no, e, q⟩ := h
    exact ⟨_, pss_one (ps_ost (pv 0) (pv 1)), _, rfl, _, rfl, a, C, rfl, T1, no, .inl ⟨e, fun d hd nd => q d hd nd⟩⟩
theorem bi_InvalidTable (T : Tx K mg) : IniB K T.e_InvalidTable := iniB_of T.I_InvalidTable (fun _ _ _ _ _ _ _ _ _ _ => ⟨_, rfl, rfl⟩) (fun _ _ _ _ _ _ _ _ _ => ⟨_, rfl, rfl⟩) (fun _ _ _ _ _ _ _ _ _ _ => ⟨_, rfl, rfl⟩)
theorem ok_init_InvalidNames (T : Tx K mg) : FnG P w K mg base CX0 1 T.f_InvalidNames T.e_InvalidNames ["self", "value"] (spInit K) := by
  refine bodyG T.I_InvalidNames sc_init_InvalidNames (fun vs H Q E h => ?_) (fun cdv A outer s H vs Q E gd hr h => ?_)
  · obtain ⟨a, C, y, rfl, _⟩ := h; rfl
  · obtain ⟨a, C, y, rfl, T1, no, e, q⟩ := h
    exact ⟨_, pss_one (ps_ost (pv 0) (pv 1)), _, rfl, _, rfl, a, C, rfl, T1, no, .inl ⟨e, fun d hd nd => q d hd nd⟩⟩
theorem bi_InvalidNames (T : Tx K mg) : IniB K T.e_InvalidNames := iniB_of T.I_InvalidNames (fun _ _ _ _ _ _ _ _ _ _ => ⟨_, rfl, rfl⟩) (fun _ _ _ _ _ _ _ _ _ => ⟨_, rfl, rfl⟩) (fun _ _ _ _ _ _ _ _ _ _ => ⟨_, rfl, rfl⟩)
theorem ok_init_InvalidWidths (T : Tx K mg) : FnG P w K mg base CX0 1 T.f_InvalidWidths T.e_InvalidWidths ["self", "value"] (spInit K) := by
  refine bodyG T.I_InvalidWidths sc_init_InvalidWidths (fun vs H Q E h => ?_) (fun cdv A outer s H vs Q E gd hr h => ?_)
  · obtain ⟨a, C, y, rfl, _⟩ := h; rfl
  · obtain ⟨a, C, y, rfl, T1, no, e, q⟩ := h
    exact ⟨_, pss_one (ps_ost (pv 0) (pv 1)), _, rfl, _, rfl, a, C, rfl, T1, no, .inl ⟨e, fun d hd nd => q d hd nd⟩⟩
theorem bi_InvalidWidths (T : Tx K mg) : IniB K T.e_InvalidWidths := iniB_of T.I_InvalidWidths (fun _ _ _ _ _ _ _ _ _ _ => ⟨_, rfl, rfl⟩) (fun _ _ _ _ _ _ _ _ _ => ⟨_, rfl, rfl⟩) (fun _ _ _ _ _ _ _ _ _ _ => ⟨_, rfl, rfl⟩)
theorem ok_init_InvalidPaper (T : Tx K mg) : FnG P w K mg base CX0 1 T.f_InvalidPaper T.e_InvalidPaper ["self", "value"] (spInit K) := by
  refine bodyG T.I_InvalidPaper sc_init_InvalidPaper (fun vs H Q E h => ?_) (fun cdv A outer s H vs Q E gd hr h => ?_)
  · obtain ⟨a, C, y, rfl, _⟩ := h; rfl
  · obtain ⟨a, C, y, rfl, T1, no, e, q⟩ := h
    exact ⟨_, pss_one (ps_ost (pv 0) (pv 1)), _, rfl, _, rfl, a, C, rfl, T1, no, .inl ⟨e, fun d hd nd => q d hd nd⟩⟩
theorem bi_InvalidPaper (T : Tx K mg) : IniB K T.e_InvalidPaper := iniB_of T.I_InvalidPaper (fun _ _ _ _ _ _ _ _ _ _ => ⟨_, rfl, rfl⟩) (fun _ _ _ _ _ _ _ _ _ => ⟨_, rfl, rfl⟩) (fun _ _ _ _ _ _ _ _ _ _ => ⟨_, rfl, rfl⟩)
theorem ok_init_InvalidMachine (T : Tx K mg) : FnG P w K mg base CX0 1 T.f_InvalidMachine T.e_InvalidMachine ["self", "value"] (spInit K) := by
  refine bodyG T.I_InvalidMachine sc_init_InvalidMachine (fun vs H Q E h => ?_) (fun cdv A outer s H vs Q E gd hr h => ?_)
  · obtain ⟨a, C, y, rfl, _⟩ := h; rfl
  · obtain ⟨a, C, y, rfl, T1, no, e, q⟩ := h
    exact ⟨_, pss_one (ps_ost (pv 0) (pv 1)), _, rfl, _, rfl, a, C, rfl, T1, no, .inl ⟨e, fun d hd nd => q d hd nd⟩⟩
theorem bi_InvalidMachine (T : Tx K mg) : IniB K T.e_InvalidMachine := iniB_of T.I_InvalidMachine (fun _ _ _ _ _ _ _ _ _ _ => ⟨_, rfl, rfl⟩) (fun _ _ _ _ _ _ _ _ _ => ⟨_, rfl, rfl⟩) (fun _ _ _ _ _ _ _ _ _ _ => ⟨_, rfl, rfl⟩)
theorem ok_init_InvalidText (T : Tx K mg) : FnG P w K mg base CX0 1 T.f_InvalidText T.e_InvalidText ["self", "value"] (spInit K) := by
  refine bodyG T.I_InvalidText sc_init_InvalidText (fun vs H Q E h => ?_) (fun cdv A outer s H vs Q E gd hr h => ?_)
  · obtain ⟨a, C, y, rfl, _⟩ := h; rfl
  · obtain ⟨a, C, y, rfl, T1, no, e, q⟩ := h
    exact ⟨_, pss_one (ps_ost (pv 0) (pv 1)), _, rfl, _, rfl, a, C, rfl, T1, no, .inl ⟨e, fun d hd nd => q d hd nd⟩⟩
theorem bi_InvalidText (T : Tx K mg) : IniB K T.e_InvalidText := iniB_of T.I_InvalidText (fun _ _ _ _ _ _ _ _ _ _ => ⟨_, rfl, rfl⟩) (fun _ _ _ _ _ _ _ _ _ => ⟨_, rfl, rfl⟩) (fun _ _ _ _ _ _ _ _ _ _ => ⟨_, rfl, rfl⟩)
theorem ok_init_InvalidDeed (T : Tx K mg) : FnG P w K mg base CX0 1 T.f_InvalidDeed T.e_InvalidDeed ["self", "value"] (spInit K) := by
  refine bodyG T.I_InvalidDeed sc_init_InvalidDeed (fun vs H Q E h => ?_) (fun cdv A outer s H vs Q E gd hr h => ?_)
  · obtain ⟨a, C, y, rfl, _⟩ := h; rfl
  · obtain ⟨a, C, y, rfl, T1, no, e, q⟩ := h
    exact ⟨_, pss_one (ps_ost (pv 0) (pv 1)), _, rfl, _, rfl, a, C, rfl, T1, no, .inl ⟨e, fun d hd nd => q d hd nd⟩⟩
theorem bi_InvalidDeed (T : Tx K mg) : IniB K T.e_InvalidDeed := iniB_of T.I_InvalidDeed (fun _ _ _ _ _ _ _ _ _ _ => ⟨_, rfl, rfl⟩) (fun _ _ _ _ _ _ _ _ _ => ⟨_, rfl, rfl⟩) (fun _ _ _ _ _ _ _ _ _ _ => ⟨_, rfl, rfl⟩)
theorem ok_init_Unlike (T : Tx K mg) : FnG P w K mg base CX0 1 T.f_Unlike T.e_Unlike ["self", "value"] (spInit K) := by
  refine bodyG T.I_Unlike sc_init_Unlike (fun vs H Q E h => ?_) (fun cdv A outer s H vs Q E gd hr h => ?_)
  · obtain ⟨a, C, y, rfl, _⟩ := h; rfl
  · obtain ⟨a, C, y, rfl, T1, no, e, q⟩ := h
    exact ⟨_, pss_one (ps_ost (pv 0) (pv 1)), _, rfl, _, rfl, a, C, rfl, T1, no, .inl ⟨e, fun d hd nd => q d hd nd⟩⟩
theorem bi_Unlike (T : Tx K mg) : IniB K T.e_Unlike := iniB_of T.I_Unlike (fun _ _ _ _ _ _ _ _ _ _ => ⟨_, rfl, rfl⟩) (fun _ _ _ _ _ _ _ _ _ => ⟨_, rfl, rfl⟩) (fun _ _ _ _ _ _ _ _ _ _ => ⟨_, rfl, rfl⟩)
theorem ok_init_TooMany (T : Tx K mg) : FnG P w K mg base CX0 1 T.f_TooMany T.e_TooMany ["self", "value"] (spInit K) := by
  refine bodyG T.I_TooMany sc_init_TooMany (fun vs H Q E h => ?_) (fun cdv A outer s H vs Q E gd hr h => ?_)
  · obtain ⟨a, C, y, rfl, _⟩ := h; rfl
  · obtain ⟨a, C, y, rfl, T1, no, e, q⟩ := h
    exact ⟨_, pss_one (ps_ost (pv 0) (pv 1)), _, rfl, _, rfl, a, C, rfl, T1, no, .inl ⟨e, fun d hd nd => q d hd nd⟩⟩
theorem bi_TooMany (T : Tx K mg) : IniB K T.e_TooMany := iniB_of T.I_TooMany (fun _ _ _ _ _ _ _ _ _ _ => ⟨_, rfl, rfl⟩) (fun _ _ _ _ _ _ _ _ _ => ⟨_, rfl, rfl⟩) (fun _ _ _ _ _ _ _ _ _ _ => ⟨_, rfl, rfl⟩)
end

/-! ### the law's own random numbers -/
section
variable {P : Program} {w : World} {K : PySem.W.Frag} {mg : Str → Option Value} {base : Heap}
/-- the seed is a rest by 2147483647, the index not far -/
def spHash : Sp := fun vs H Q _ => ∃ a b : Int, vs = [.int a, .int b] ∧ 0 ≤ a ∧ a < 2147483648 ∧ 0 ≤ b ∧ b < 4294967296 ∧ ∀ r : Int, 0 ≤ r → r < 2147483647 → Q (.int r) H
theorem nlt {i : Int} {n : Nat} (h0 : 0 ≤ i) (h : i < 2 ^ n) : i.natAbs < 2 ^ n := by
  have e : ((2 ^ n : Nat) : Int) = (2 : Int) ^ n := by rw [Int.natCast_pow]; rfl
  omega
theorem ok_law_hash (T : Tx K mg) : FnG P w K mg base CX0 1 T.a_law_hash T.d_law_hash ["_law_seed", "_law_index"] spHash := by
  refine bodyG0 T.F_law_hash sc_law_hash (fun vs H Q E h => ?_) (fun cdv A outer s H vs Q E gd hr h => ?_)
  · obtain ⟨a, b, rfl, _⟩ := h; rfl
  · obtain ⟨a, b, rfl, a0, a1, b0, b1, q⟩ := h
    refine ⟨_, (pss_cons (ps_set (i := 2) sc_law_hash.nd rfl (Or.inl rfl) (pe_op op_mod (pe_callTy call_int1 (by rfl) T.z_int (by decide +kernel) (pa_cons (pe_op op_add (pe_op op_add (pe_op op_add (pe_op op_mulX (pv 0) pe_int) (pe_op op_mulX (pe_op op_mulX pe_int (pv 1)) (pv 1))) (pe_op op_mulX pe_int (pv 1))) pe_int) pa_nil)) pe_int))
      (pss_cons (ps_set (i := 2) sc_law_hash.nd rfl (Or.inl rfl) (pe_op op_mod (pe_callTy call_int1 (by rfl) T.z_int (by decide +kernel) (pa_cons (pe_op op_add (pe_op op_add (pe_op op_mulX (pv 2) (pv 2)) (pe_op op_mulX pe_int (pv 1))) pe_int) pa_nil)) pe_int))
      (pss_one (ps_ret (pe_op op_mod (pe_callTy call_int1 (by rfl) T.z_int (by decide +kernel) (pa_cons (pe_op op_mulX (pv 2) pe_int) pa_nil)) pe_int))))), ?_⟩
    have ha : a.natAbs < 2 ^ 31 := nlt a0 a1
    have hb : b.natAbs < 2 ^ 32 := nlt b0 b1
    refine ⟨_, rfl, _, _, rfl, rfl, mulx_ok ha (b := 31) (by decide) (by decide), _, rfl, _, _, rfl, rfl, mulx_ok (a := 31) (by decide) hb (by decide), _, rfl, _, _, rfl, rfl, mulx_ok (wide_lt (a := 31) (by decide) hb) hb (by decide), _, _, rfl, rfl, _, rfl, _, _, rfl, rfl, mulx_ok (a := 31) (by decide) hb (by decide), _, _, rfl, rfl, _, _, rfl, rfl, .inl ⟨_, rfl, _, _, rfl, rfl, (by decide : (0 : Int) < 2147483629), ?_⟩⟩
    dsimp only
    generalize (a * 1140671 + 27644437 * b * b + 131 * b + 19) = x1
    have x0 := Int.emod_nonneg x1 (by decide : (2147483629 : Int) ≠ 0)
    have x2 := Int.emod_lt_of_pos x1 (by decide : (0 : Int) < 2147483629)
    generalize x1 % 2147483629 = x at x0 x2
    have hx : x.natAbs < 2 ^ 31 := nlt x0 (by omega)
    refine ⟨_, rfl, _, rfl, _, _, rfl, rfl, mulx_ok hx hx (by decide), _, rfl, _, _, rfl, rfl, mulx_ok (a := 31) (by decide) hb (by decide), _, _, rfl, rfl, _, _, rfl, rfl, .inl ⟨_, rfl, _, _, rfl, rfl, (by decide : (0 : Int) < 2147483587), ?_⟩⟩
    dsimp only
    generalize (x * x + 62089 * b + 32416187) = y1
    have y0 := Int.emod_nonneg y1 (by decide : (2147483587 : Int) ≠ 0)
    have y2 := Int.emod_lt_of_pos y1 (by decide : (0 : Int) < 2147483587)
    generalize y1 % 2147483587 = y at y0 y2
    have hy : y.natAbs < 2 ^ 31 := nlt y0 (by omega)
    refine ⟨_, rfl, _, _, rfl, rfl, mulx_ok hy (b := 31) (by decide) (by decide), .inl ⟨_, rfl, _, _, rfl, rfl, (by decide : (0 : Int) < 2147483647), ?_⟩⟩
    exact q _ (Int.emod_nonneg _ (by decide)) (Int.emod_lt_of_pos _ (by decide))

/-- the generator: what is left of a great seed, the seed's rest, the index -/
structure GenOk (s t c m : Int) : Prop where
  s0 : 0 ≤ s
  s1 : s < 2 ^ 2000
  t0 : 0 ≤ t
  t1 : t < 2147483648
  c0 : 0 ≤ c
  c1 : c ≤ m
def genL (s t c : Int) : HO := .lst [.int s, .int t, .int c]
/-- a draw below a bound: the generator's list at a is another one; the index grows by a hundred at most -/
def spRandom : Sp := fun vs H Q _ => ∃ (a : Addr) (b s t c m : Int), vs = [.ref a, .int b] ∧ H a = some (genL s t c) ∧ GenOk s t c m ∧ m + 100 < 4294967296 ∧ 0 < b ∧ b < 2 ^ 2000 ∧
  ∀ (r s' c' : Int), 0 ≤ r → r < b → GenOk s' t c' (m + 100) → Q (.int r) (upd H a (genL s' t c'))
theorem bits_le_of {b : Int} {n : Nat} (h0 : 0 ≤ b) (h : b < 2 ^ n) : Builtin.Int.intBits b ≤ n := PyProof.Rows.intBits_le (nlt h0 h)
theorem ok_law_random (T : Tx K mg) : FnG P w K mg base CX0 2 T.a_law_random T.d_law_random ["_law_generator_here", "_law_bound"] spRandom := by
  have G_law_hash := ok_law_hash (P := P) (w := w) (base := base) T
  refine bodyG0 T.F_law_random sc_law_random (fun vs H Q E h => ?_) (fun cdv A outer s H vs Q E gd hr h => ?_)
  · obtain ⟨a, b, s, t, c, m, rfl, _⟩ := h; rfl
  · obtain ⟨a, b, s, t, c, m, rfl, hg, ok, hm, b0, b1, q⟩ := h
    obtain ⟨s0, s1, t0, t1, c0, c1⟩ := ok
    have sq : SqL K H a [.int s, .int t, .int c] := .inl (.inl hg)
    refine ⟨_, (pss_cons (ps_if (pt_cmpR op_gt (pe_ix (ix_listK (K := K) rfl) (pv 0) pe_int (fun _ _ => rfl)) pe_int (nomark _)) (pss_cons (ps_set (i := 2) sc_law_random.nd rfl (Or.inl rfl) (pe_op op_mod (pe_callTy call_int1 (by rfl) T.z_int (by decide +kernel) (pa_cons (pe_ix (ix_listK (K := K) rfl) (pv 0) pe_int (fun _ _ => rfl)) pa_nil)) (pv 1)))
      (pss_cons (ps_asg (pe_op op_fdivW (pe_ix (ix_listK (K := K) rfl) (pv 0) pe_int (fun _ _ => rfl)) (pv 1)) (pg_sub (pv 0) pe_int set_list))
      (pss_one (ps_ret (pv 2))))) pss_nil)
      (pss_cons (ps_set (i := 2) sc_law_random.nd rfl (Or.inl rfl) pe_int)
      (pss_cons (ps_for PassesOwn.never rfl (pi_range1 (by rfl) T.z_range (pa_cons (pe_op op_add pe_int (pe_op op_fdivW (pe_bits (pv 1)) pe_int)) pa_nil)) (pg_name (i := 3) sc_law_random.nd rfl (Or.inl rfl)) (pss_cons (ps_asg (pe_op op_add (pe_ix (ix_listK (K := K) rfl) (pv 0) pe_int (fun _ _ => rfl)) pe_int) (pg_sub (pv 0) pe_int set_list))
      (pss_one (ps_set (i := 2) sc_law_random.nd rfl (Or.inl rfl) (pe_op op_add (pe_op op_mulX (pv 2) pe_int) (pe_g G_law_hash gd (hr.mono (by decide)) (by rfl) T.g_law_hash T.F_law_hash.kp T.b_law_hash .nil pass0 (pa_cons (pe_ix (ix_listK (K := K) rfl) (pv 0) pe_int (fun _ _ => rfl)) (pa_cons (pe_ix (ix_listK (K := K) rfl) (pv 0) pe_int (fun _ _ => rfl)) pa_nil))))))))
      (pss_one (ps_ret (pe_op op_mod (pe_callTy call_int1 (by rfl) T.z_int (by decide +kernel) (pa_cons (pv 2) pa_nil)) (pv 1))))))), ?_⟩
    refine ⟨_, rfl, _, _, _, _, rfl, rfl, sq, atI_nat (j := 0) rfl, _, _, rfl, rfl, _, rfl, ?_⟩
    by_cases hs : 0 < s
    · rw [decide_eq_true hs]
      refine iteT ⟨_, rfl, _, _, _, _, rfl, rfl, sq, atI_nat (j := 0) rfl, .inl ⟨_, rfl, _, rfl, _, _, rfl, rfl, b0, ?_⟩⟩
      refine ⟨_, rfl, _, _, _, _, rfl, rfl, sq, atI_nat (j := 0) rfl, _, rfl, _, _, rfl, rfl, wide_div b0 (nlt (Int.le_of_lt b0) b1) (by decide) (by decide), ?_⟩
      refine ⟨_, rfl, a, _, _, 0, rfl, rfl, hg, rfl, ?_⟩
      refine ⟨_, rfl, ?_⟩
      have d0 := Int.ediv_nonneg s0 (Int.le_of_lt b0)
      have d1 : s / b ≤ s := Int.ediv_le_self b s0
      exact q _ _ _ (Int.emod_nonneg _ (by omega)) (Int.emod_lt_of_pos _ b0) ⟨d0, by omega, t0, t1, c0, by omega⟩
    · rw [decide_eq_false hs]
      refine iteF ?_
      have hbits := bits_le_of (Int.le_of_lt b0) b1
      have hq : ((1 : Int) + (Builtin.Int.intBits b : Nat) / 30) = ((1 + Builtin.Int.intBits b / 30 : Nat) : Int) := by rw [Int.natCast_add, Int.natCast_ediv]; rfl
      refine ⟨_, rfl, b, rfl, _, _, rfl, rfl, wide_div (b := 5) (by decide) (by decide) (by decide) (by decide), _, _, rfl, rfl, ((1 + Builtin.Int.intBits b / 30 : Nat) : Int), by rw [← hq], by omega, by omega, ?_⟩
      refine for_range (n := 1 + Builtin.Int.intBits b / 30) (fun i σ H' => ∃ (d : Int) (y : Option V), σ = [some (.ref a), some (.int b), some (.int d), y] ∧ H' = upd H a (genL s t (c + i)) ∧ 0 ≤ d ∧ d < 2 ^ (31 * i)) ⟨0, none, rfl, ?_, by decide, by decide⟩ ?_ ?_
      · rw [show c + ((0 : Nat) : Int) = c by omega]
        funext x
        unfold upd
        by_cases hx : x = a
        · rw [if_pos hx, hx, hg]
        · rw [if_neg hx]
      · rintro i σ H' hi ⟨d, y, rfl, rfl, d0, d1⟩
        have up : (upd H a (genL s t (c + i))) a = some (genL s t (c + i)) := upd_same
        have sq1 : SqL K (upd H a (genL s t (c + i))) a [.int s, .int t, .int (c + i)] := .inl (.inl up)
        refine ⟨_, rfl, _, _, _, _, rfl, rfl, sq1, atI_nat (j := 2) rfl, _, _, rfl, rfl, _, rfl, a, _, _, 2, rfl, rfl, up, rfl, ?_⟩
        have up2 : (upd (upd H a (genL s t (c + i))) a (.lst ([V.int s, .int t, .int (c + i)].set 2 (.int (c + i + 1))))) a = some (genL s t (c + i + 1)) := upd_same
        have sq2 : SqL K (upd (upd H a (genL s t (c + i))) a (.lst ([V.int s, .int t, .int (c + i)].set 2 (.int (c + i + 1))))) a [.int s, .int t, .int (c + i + 1)] := .inl (.inl up2)
        refine ⟨_, rfl, _, _, rfl, rfl, mulx_ok (nlt d0 d1) (b := 31) (by decide) (by omega), ?_⟩
        refine ⟨_, rfl, _, _, _, _, rfl, rfl, sq2, atI_nat (j := 1) rfl, _, rfl, _, _, _, _, rfl, rfl, sq2, atI_nat (j := 2) rfl, _, _, rfl, t0, t1, by omega, by omega, fun r r0 r1 => ⟨_, _, rfl, rfl, ?_⟩⟩
        refine ⟨d * 2147483587 + r, _, rfl, ?_, by omega, ?_⟩
        · rw [show c + ((i + 1 : Nat) : Int) = c + i + 1 by omega]
          exact upd_upd
        · have e : (2 : Int) ^ (31 * (i + 1)) = 2 ^ (31 * i) * 2147483648 := by
            rw [Nat.mul_add, Int.pow_add]; rfl
          have p : (1 : Int) ≤ 2 ^ (31 * i) := Int.pow_pos (by decide)
          rw [e]
          generalize (2 : Int) ^ (31 * i) = B at d1 p
          omega
      · rintro σ H' ⟨d, y, rfl, rfl, d0, d1⟩
        refine ⟨_, rfl, .inl ⟨_, rfl, _, rfl, _, _, rfl, rfl, b0, ?_⟩⟩
        exact q _ _ _ (Int.emod_nonneg _ (by omega)) (Int.emod_lt_of_pos _ b0) ⟨s0, s1, t0, t1, by omega, by omega⟩

theorem same_new {H : Hp} {p : Addr} {o : HO} (h : H p = none) : Same H (upd H p o) := fun b x e => by
  rw [upd_ne (ne_of_none e h)]
  exact e
theorem cut_first {α : Type} (f : α → V) (xs : List α) : cutV (xs.map f) none (some 1) = (xs.take 1).map f := by
  unfold cutV
  rw [HT.sIx_none, show HT.sIx (xs.map f).length (xs.map f).length (some 1) = min 1 (xs.map f).length from HT.sIx_nat _ _ 1]
  cases xs with
  | nil => rfl
  | cons x r =>
    rw [show min 1 ((x :: r).map f).length = 1 by rw [List.length_map, List.length_cons]; omega]
    rfl
def spCell (K : PySem.W.Frag) : Sp := fun vs H Q _ => ∃ (a : Addr) (ns : List Int) (j : Nat), vs = [.ref a, .int j] ∧ SqL K H a (ns.map V.int) ∧ ∀ (r : Int) (H' : Hp), Same H H' → Q (.int r) H'
theorem ok_law_cell (T : Tx K mg) : FnG P w K mg base CX0 1 T.a_law_cell T.d_law_cell ["_law_script", "_law_index"] (spCell K) := by
  refine bodyG0 T.F_law_cell sc_law_cell (fun vs H Q E h => ?_) (fun cdv A outer s H vs Q E gd hr h => ?_)
  · obtain ⟨a, ns, j, rfl, _⟩ := h; rfl
  · obtain ⟨a, ns, j, rfl, hS, q⟩ := h
    refine ⟨_, (pss_cons (ps_if (pt_cmpR op_lt (pv 1) (pe_callB (call_lenK (K := K) rfl) (by rfl) T.z_len (by decide +kernel) (pa_cons (pv 0) pa_nil)) (nomark _)) (pss_one (ps_ret (pe_ix (ix_listK (K := K) rfl) (pv 0) (pv 1) (fun _ _ => rfl)))) pss_nil)
      (pss_one (ps_ret (pe_op op_mod (pe_callB (cr_sum rfl) (by rfl) T.z_sum (by decide +kernel) (pa_cons (pe_slice (sl_listK (K := K) rfl) (pv 0) po_none (po_some pe_int)) pa_nil)) pe_int)))), ?_⟩
    refine ⟨_, rfl, _, rfl, a, _, rfl, .inl hS, _, _, rfl, rfl, _, rfl, ?_⟩
    by_cases hj : ((j : Nat) : Int) < ((ns.map V.int).length : Nat)
    · rw [decide_eq_true hj]
      have hj2 : j < ns.length := by rw [List.length_map] at hj; omega
      refine iteT ⟨_, rfl, _, rfl, _, _, _, _, rfl, rfl, hS, atI_nat (j := j) (v := .int (ns[j])) ?_, q _ _ (Same.refl H)⟩
      rw [List.getElem?_map, List.getElem?_eq_getElem hj2]
      rfl
    · rw [decide_eq_false hj]
      refine iteF ⟨_, rfl, 1, rfl, a, _, rfl, hS, fun p hp => ?_⟩
      refine ⟨p, ns.take 1, rfl, .inl (.inl ?_), _, _, rfl, rfl, (by decide : (0 : Int) < 1000003), q _ _ (same_new hp)⟩
      rw [upd_same, cut_first]
def spGenerator (K : PySem.W.Frag) : Sp := fun vs H Q _ => ∃ (a : Addr) (ns : List Int) (j : Nat), vs = [.ref a, .int j] ∧ j ≤ 1000 ∧ SqL K H a (ns.map V.int) ∧
  ∀ (g : Addr) (H' : Hp) (s t c : Int), Same H H' → H g = none → H' g = some (genL s t c) → GenOk s t c (1000 * j) → Q (.ref g) H'
theorem ok_law_generator (T : Tx K mg) : FnG P w K mg base CX0 2 T.a_law_generator T.d_law_generator ["_law_script", "_law_index"] (spGenerator K) := by
  have G_law_cell := ok_law_cell (P := P) (w := w) (base := base) T
  refine bodyG0 T.F_law_generator sc_law_generator (fun vs H Q E h => ?_) (fun cdv A outer s H vs Q E gd hr h => ?_)
  · obtain ⟨a, ns, j, rfl, _⟩ := h; rfl
  · obtain ⟨a, ns, j, rfl, hj, hS, q⟩ := h
    refine ⟨_, (pss_cons (ps_set (i := 2) sc_law_generator.nd rfl (Or.inl rfl) (pe_g G_law_cell gd (hr.mono (by decide)) (by rfl) T.g_law_cell T.F_law_cell.kp T.b_law_cell .nil pass0 (pa_cons (pv 0) (pa_cons (pv 1) pa_nil))))
      (pss_one (ps_ret (pe_lst (pa_cons (pe_op op_mod (pe_callTy call_int1 (by rfl) T.z_int (by decide +kernel) (pa_cons (pe_callB (call_max2 rfl) (by rfl) T.z_max (by decide +kernel) (pa_cons (pe_op op_sub (pv 2) (pe_op op_powW pe_int pe_int)) (pa_cons pe_int pa_nil))) pa_nil)) (pe_op op_powW (pe_op op_powW pe_int pe_int) pe_int)) (pa_cons (pe_op op_mod (pe_callTy call_int1 (by rfl) T.z_int (by decide +kernel) (pa_cons (pv 2) pa_nil)) pe_int) (pa_cons (pe_op op_mulX pe_int (pv 1)) pa_nil))))))), ?_⟩
    refine ⟨_, rfl, _, rfl, a, ns, j, rfl, hS, fun r H' sm => ?_⟩
    have e10 : ((10 : Int) ^ 60).natAbs < 2 ^ 200 := by decide +kernel
    refine ⟨_, rfl, _, _, rfl, rfl, powW_ok (n := 4) (j := 18) (by decide) (by decide), _, _, rfl, rfl, _, _, rfl, .inl ⟨_, rfl, ?_⟩⟩
    refine ⟨_, _, rfl, rfl, powW_ok (n := 4) (j := 60) (by decide) (by decide), _, _, rfl, rfl, powW_ok (n := 200) (j := 10) e10 (by decide), _, _, rfl, rfl, (by decide +kernel : (0 : Int) < (10 ^ 60) ^ 10), ?_⟩
    refine ⟨_, rfl, .inl ⟨_, rfl, _, _, rfl, rfl, (by decide : (0 : Int) < 2147483647), ?_⟩⟩
    refine ⟨_, rfl, _, _, rfl, rfl, mulx_ok (a := 10) (b := 10) (by decide) (by omega) (by decide), by show 3 ≤ sizeLine; rw [sizeLine_eq]; decide, fun g hg => ?_⟩
    have big : ((10 : Int) ^ 60) ^ 10 < 2 ^ 2000 := by decide +kernel
    have m1 := Int.emod_lt_of_pos (if r - 10 ^ 18 < 0 then 0 else r - 10 ^ 18) (by decide +kernel : (0 : Int) < (10 ^ 60) ^ 10)
    refine q g _ _ _ _ (sm.trans (same_new hg)) (sm.free hg) upd_same ⟨Int.emod_nonneg _ (by decide +kernel), Int.lt_trans (Int.emod_lt_of_pos _ (by decide +kernel)) big, Int.emod_nonneg _ (by decide), Int.lt_trans (Int.emod_lt_of_pos _ (by decide)) (by decide), by omega, by omega⟩
end

end K05

set_option Elab.async false
set_option linter.all false
set_option maxRecDepth 100000
set_option maxHeartbeats 4000000
namespace K05
open PySem PySem.Spec PyProof.Rows L2 Hw

section
variable {P : Program} {w : World} {K : PySem.W.Frag} {mg : Str → Option Value} {base : Heap}
def spMade (ci : List Addr) : Sp := fun vs H Q _ => ∃ y : V, vs = [y] ∧ ∀ x H', Same H H' → ML y ci x H' → Q x H'
def spNone (ci : List Addr) : Sp := fun vs H Q _ => vs = [] ∧ ∀ x H', Same H H' → ML .non ci x H' → Q x H'
theorem ok_law_made (T : Tx K mg) : FnG P w K mg base CX0 3 T.a_law_made T.d_law_made ["_law_value_now"] (spMade T.ci) := by
  have G_init_InvalidNumber := ok_init_InvalidNumber (P := P) (w := w) (base := base) T
  have B_InvalidNumber := bi_InvalidNumber T
  have G_init_InvalidName := ok_init_InvalidName (P := P) (w := w) (base := base) T
  have B_InvalidName := bi_InvalidName T
  have G_init_InvalidWidth := ok_init_InvalidWidth (P := P) (w := w) (base := base) T
  have B_InvalidWidth := bi_InvalidWidth T
  have G_init_InvalidWord := ok_init_InvalidWord (P := P) (w := w) (base := base) T
  have B_InvalidWord := bi_InvalidWord T
  have G_init_InvalidExpression := ok_init_InvalidExpression (P := P) (w := w) (base := base) T
  have B_InvalidExpression := bi_InvalidExpression T
  have G_init_InvalidClaim := ok_init_InvalidClaim (P := P) (w := w) (base := base) T
  have B_InvalidClaim := bi_InvalidClaim T
  have G_init_InvalidClaims := ok_init_InvalidClaims (P := P) (w := w) (base := base) T
  have B_InvalidClaims := bi_InvalidClaims T
  have G_init_InvalidFilling := ok_init_InvalidFilling (P := P) (w := w) (base := base) T
  have B_InvalidFilling := bi_InvalidFilling T
  have G_init_InvalidTable := ok_init_InvalidTable (P := P) (w := w) (base := base) T
  have B_InvalidTable := bi_InvalidTable T
  have G_init_InvalidNames := ok_init_InvalidNames (P := P) (w := w) (base := base) T
  have B_InvalidNames := bi_InvalidNames T
  have G_init_InvalidWidths := ok_init_InvalidWidths (P := P) (w := w) (base := base) T
  have B_InvalidWidths := bi_InvalidWidths T
  have G_init_InvalidPaper := ok_init_InvalidPaper (P := P) (w := w) (base := base) T
  have B_InvalidPaper := bi_InvalidPaper T
  have G_init_InvalidMachine := ok_init_InvalidMachine (P := P) (w := w) (base := base) T
  have B_InvalidMachine := bi_InvalidMachine T
  have G_init_InvalidText := ok_init_InvalidText (P := P) (w := w) (base := base) T
  have B_InvalidText := bi_InvalidText T
  have G_init_InvalidDeed := ok_init_InvalidDeed (P := P) (w := w) (base := base) T
  have B_InvalidDeed := bi_InvalidDeed T
  have G_init_Unlike := ok_init_Unlike (P := P) (w := w) (base := base) T
  have B_Unlike := bi_Unlike T
  have G_init_TooMany := ok_init_TooMany (P := P) (w := w) (base := base) T
  have B_TooMany := bi_TooMany T
  refine bodyG0 T.F_law_made sc_law_made (fun vs H Q E h => ?_) (fun cdv A outer s H vs Q E gd hr h => ?_)
  · obtain ⟨y, rfl, _⟩ := h; rfl
  · obtain ⟨y, rfl, q⟩ := h
    refine ⟨_, (pss_cons (ps_set (i := 1) sc_law_made.nd rfl (Or.inl rfl) (pe_lst (pa_cons (pe_x1 (g := fun a _ => a) (gV := fun a _ => a) T.x_InvalidNumber T.i_InvalidNumber T.t_InvalidNumber G_init_InvalidNumber gd (hr.mono (by decide)) pass0 (by rfl) T.k_InvalidNumber B_InvalidNumber.b2 (pa_cons (pv 0) pa_nil)) (pa_cons (pe_x1 (g := fun a _ => a) (gV := fun a _ => a) T.x_InvalidName T.i_InvalidName T.t_InvalidName G_init_InvalidName gd (hr.mono (by decide)) pass0 (by rfl) T.k_InvalidName B_InvalidName.b2 (pa_cons (pv 0) pa_nil)) (pa_cons (pe_x1 (g := fun a _ => a) (gV := fun a _ => a) T.x_InvalidWidth T.i_InvalidWidth T.t_InvalidWidth G_init_InvalidWidth gd (hr.mono (by decide)) pass0 (by rfl) T.k_InvalidWidth B_InvalidWidth.b2 (pa_cons (pv 0) pa_nil)) (pa_cons (pe_x1 (g := fun a _ => a) (gV := fun a _ => a) T.x_InvalidWord T.i_InvalidWord T.t_InvalidWord G_init_InvalidWord gd (hr.mono (by decide)) pass0 (by rfl) T.k_InvalidWord B_InvalidWord.b2 (pa_cons (pv 0) pa_nil)) (pa_cons (pe_x1 (g := fun a _ => a) (gV := fun a _ => a) T.x_InvalidExpression T.i_InvalidExpression T.t_InvalidExpression G_init_InvalidExpression gd (hr.mono (by decide)) pass0 (by rfl) T.k_InvalidExpression B_InvalidExpression.b2 (pa_cons (pv 0) pa_nil)) pa_nil)))))))
      (pss_cons (ps_set (i := 1) sc_law_made.nd rfl (Or.inl rfl) (pe_op op_cat (pv 1) (pe_lst (pa_cons (pe_x1 (g := fun a _ => a) (gV := fun a _ => a) T.x_InvalidClaim T.i_InvalidClaim T.t_InvalidClaim G_init_InvalidClaim gd (hr.mono (by decide)) pass0 (by rfl) T.k_InvalidClaim B_InvalidClaim.b2 (pa_cons (pv 0) pa_nil)) (pa_cons (pe_x1 (g := fun a _ => a) (gV := fun a _ => a) T.x_InvalidClaims T.i_InvalidClaims T.t_InvalidClaims G_init_InvalidClaims gd (hr.mono (by decide)) pass0 (by rfl) T.k_InvalidClaims B_InvalidClaims.b2 (pa_cons (pv 0) pa_nil)) (pa_cons (pe_x1 (g := fun a _ => a) (gV := fun a _ => a) T.x_InvalidFilling T.i_InvalidFilling T.t_InvalidFilling G_init_InvalidFilling gd (hr.mono (by decide)) pass0 (by rfl) T.k_InvalidFilling B_InvalidFilling.b2 (pa_cons (pv 0) pa_nil)) (pa_cons (pe_x1 (g := fun a _ => a) (gV := fun a _ => a) T.x_InvalidTable T.i_InvalidTable T.t_InvalidTable G_init_InvalidTable gd (hr.mono (by decide)) pass0 (by rfl) T.k_InvalidTable B_InvalidTable.b2 (pa_cons (pv 0) pa_nil)) (pa_cons (pe_x1 (g := fun a _ => a) (gV := fun a _ => a) T.x_InvalidNames T.i_InvalidNames T.t_InvalidNames G_init_InvalidNames gd (hr.mono (by decide)) pass0 (by rfl) T.k_InvalidNames B_InvalidNames.b2 (pa_cons (pv 0) pa_nil)) pa_nil))))))))
      (pss_cons (ps_set (i := 1) sc_law_made.nd rfl (Or.inl rfl) (pe_op op_cat (pv 1) (pe_lst (pa_cons (pe_x1 (g := fun a _ => a) (gV := fun a _ => a) T.x_InvalidWidths T.i_InvalidWidths T.t_InvalidWidths G_init_InvalidWidths gd (hr.mono (by decide)) pass0 (by rfl) T.k_InvalidWidths B_InvalidWidths.b2 (pa_cons (pv 0) pa_nil)) (pa_cons (pe_x1 (g := fun a _ => a) (gV := fun a _ => a) T.x_InvalidPaper T.i_InvalidPaper T.t_InvalidPaper G_init_InvalidPaper gd (hr.mono (by decide)) pass0 (by rfl) T.k_InvalidPaper B_InvalidPaper.b2 (pa_cons (pv 0) pa_nil)) (pa_cons (pe_x1 (g := fun a _ => a) (gV := fun a _ => a) T.x_InvalidMachine T.i_InvalidMachine T.t_InvalidMachine G_init_InvalidMachine gd (hr.mono (by decide)) pass0 (by rfl) T.k_InvalidMachine B_InvalidMachine.b2 (pa_cons (pv 0) pa_nil)) (pa_cons (pe_x1 (g := fun a _ => a) (gV := fun a _ => a) T.x_InvalidText T.i_InvalidText T.t_InvalidText G_init_InvalidText gd (hr.mono (by decide)) pass0 (by rfl) T.k_InvalidText B_InvalidText.b2 (pa_cons (pv 0) pa_nil)) (pa_cons (pe_x1 (g := fun a _ => a) (gV := fun a _ => a) T.x_InvalidDeed T.i_InvalidDeed T.t_InvalidDeed G_init_InvalidDeed gd (hr.mono (by decide)) pass0 (by rfl) T.k_InvalidDeed B_InvalidDeed.b2 (pa_cons (pv 0) pa_nil)) pa_nil))))))))
      (pss_one (ps_ret (pe_op op_cat (pv 1) (pe_lst (pa_cons (pe_x1 (g := fun a _ => a) (gV := fun a _ => a) T.x_Unlike T.i_Unlike T.t_Unlike G_init_Unlike gd (hr.mono (by decide)) pass0 (by rfl) T.k_Unlike B_Unlike.b2 (pa_cons (pv 0) pa_nil)) (pa_cons (pe_x1 (g := fun a _ => a) (gV := fun a _ => a) T.x_TooMany T.i_TooMany T.t_TooMany G_init_TooMany gd (hr.mono (by decide)) pass0 (by rfl) T.k_TooMany B_TooMany.b2 (pa_cons (pv 0) pa_nil)) pa_nil))))))))), ?_⟩
    refine seqL (setL (((Ev.mlst (Eva.mcons (Ev.mx1 rfl) (Eva.mcons (Ev.mx1 rfl) (Eva.mcons (Ev.mx1 rfl) (Eva.mcons (Ev.mx1 rfl) (Eva.mcons (Ev.mx1 rfl) Eva.mnil))))) (by show 5 ≤ 1000; decide)) : Ev Tr (ML y [T.c_InvalidNumber, T.c_InvalidName, T.c_InvalidWidth, T.c_InvalidWord, T.c_InvalidExpression]) _ [some y, none]) H _ trivial ?_))
    rintro x0 H0 e0 m0
    dsimp only [gName]
    refine seqL (setL (mcat m0 rfl ((Ev.mlst (Eva.mcons (Ev.mx1 rfl) (Eva.mcons (Ev.mx1 rfl) (Eva.mcons (Ev.mx1 rfl) (Eva.mcons (Ev.mx1 rfl) (Eva.mcons (Ev.mx1 rfl) Eva.mnil))))) (by show 5 ≤ 1000; decide)) : Ev Tr (ML y [T.c_InvalidClaim, T.c_InvalidClaims, T.c_InvalidFilling, T.c_InvalidTable, T.c_InvalidNames]) _ [some y, some x0]) (by show 10 ≤ 1000; decide) ?_))
    rintro x1 H1 e1 m1
    dsimp only [gName]
    refine seqL (setL (mcat m1 rfl ((Ev.mlst (Eva.mcons (Ev.mx1 rfl) (Eva.mcons (Ev.mx1 rfl) (Eva.mcons (Ev.mx1 rfl) (Eva.mcons (Ev.mx1 rfl) (Eva.mcons (Ev.mx1 rfl) Eva.mnil))))) (by show 5 ≤ 1000; decide)) : Ev Tr (ML y [T.c_InvalidWidths, T.c_InvalidPaper, T.c_InvalidMachine, T.c_InvalidText, T.c_InvalidDeed]) _ [some y, some x1]) (by show 15 ≤ 1000; decide) ?_))
    rintro x2 H2 e2 m2
    dsimp only [gName]
    refine retL (mcat m2 rfl ((Ev.mlst (Eva.mcons (Ev.mx1 rfl) (Eva.mcons (Ev.mx1 rfl) Eva.mnil)) (by show 2 ≤ 1000; decide)) : Ev Tr (ML y [T.c_Unlike, T.c_TooMany]) _ [some y, some x2]) (by show 17 ≤ 1000; decide) ?_)
    rintro x3 H3 e3 m3
    exact q x3 H3 (((e0.trans e1).trans e2).trans e3) m3
theorem ok_law_by_name (T : Tx K mg) : FnG P w K mg base CX0 3 T.a_law_by_name T.d_law_by_name ["_law_value_now"] (spMade T.ci) := by
  have G_init_InvalidNumber := ok_init_InvalidNumber (P := P) (w := w) (base := base) T
  have B_InvalidNumber := bi_InvalidNumber T
  have G_init_InvalidName := ok_init_InvalidName (P := P) (w := w) (base := base) T
  have B_InvalidName := bi_InvalidName T
  have G_init_InvalidWidth := ok_init_InvalidWidth (P := P) (w := w) (base := base) T
  have B_InvalidWidth := bi_InvalidWidth T
  have G_init_InvalidWord := ok_init_InvalidWord (P := P) (w := w) (base := base) T
  have B_InvalidWord := bi_InvalidWord T
  have G_init_InvalidExpression := ok_init_InvalidExpression (P := P) (w := w) (base := base) T
  have B_InvalidExpression := bi_InvalidExpression T
  have G_init_InvalidClaim := ok_init_InvalidClaim (P := P) (w := w) (base := base) T
  have B_InvalidClaim := bi_InvalidClaim T
  have G_init_InvalidClaims := ok_init_InvalidClaims (P := P) (w := w) (base := base) T
  have B_InvalidClaims := bi_InvalidClaims T
  have G_init_InvalidFilling := ok_init_InvalidFilling (P := P) (w := w) (base := base) T
  have B_InvalidFilling := bi_InvalidFilling T
  have G_init_InvalidTable := ok_init_InvalidTable (P := P) (w := w) (base := base) T
  have B_InvalidTable := bi_InvalidTable T
  have G_init_InvalidNames := ok_init_InvalidNames (P := P) (w := w) (base := base) T
  have B_InvalidNames := bi_InvalidNames T
  have G_init_InvalidWidths := ok_init_InvalidWidths (P := P) (w := w) (base := base) T
  have B_InvalidWidths := bi_InvalidWidths T
  have G_init_InvalidPaper := ok_init_InvalidPaper (P := P) (w := w) (base := base) T
  have B_InvalidPaper := bi_InvalidPaper T
  have G_init_InvalidMachine := ok_init_InvalidMachine (P := P) (w := w) (base := base) T
  have B_InvalidMachine := bi_InvalidMachine T
  have G_init_InvalidText := ok_init_InvalidText (P := P) (w := w) (base := base) T
  have B_InvalidText := bi_InvalidText T
  have G_init_InvalidDeed := ok_init_InvalidDeed (P := P) (w := w) (base := base) T
  have B_InvalidDeed := bi_InvalidDeed T
  have G_init_Unlike := ok_init_Unlike (P := P) (w := w) (base := base) T
  have B_Unlike := bi_Unlike T
  have G_init_TooMany := ok_init_TooMany (P := P) (w := w) (base := base) T
  have B_TooMany := bi_TooMany T
  refine bodyG0 T.F_law_by_name sc_law_by_name (fun vs H Q E h => ?_) (fun cdv A outer s H vs Q E gd hr h => ?_)
  · obtain ⟨y, rfl, _⟩ := h; rfl
  · obtain ⟨y, rfl, q⟩ := h
    refine ⟨_, (pss_cons (ps_set (i := 1) sc_law_by_name.nd rfl (Or.inl rfl) (pe_lst (pa_cons (pe_xk T.x_InvalidNumber T.i_InvalidNumber T.t_InvalidNumber G_init_InvalidNumber gd (hr.mono (by decide)) pass0 (by rfl) T.k_InvalidNumber B_InvalidNumber.bk (pk_cons (pv 0) pk_nil)) (pa_cons (pe_xk T.x_InvalidName T.i_InvalidName T.t_InvalidName G_init_InvalidName gd (hr.mono (by decide)) pass0 (by rfl) T.k_InvalidName B_InvalidName.bk (pk_cons (pv 0) pk_nil)) (pa_cons (pe_xk T.x_InvalidWidth T.i_InvalidWidth T.t_InvalidWidth G_init_InvalidWidth gd (hr.mono (by decide)) pass0 (by rfl) T.k_InvalidWidth B_InvalidWidth.bk (pk_cons (pv 0) pk_nil)) (pa_cons (pe_xk T.x_InvalidWord T.i_InvalidWord T.t_InvalidWord G_init_InvalidWord gd (hr.mono (by decide)) pass0 (by rfl) T.k_InvalidWord B_InvalidWord.bk (pk_cons (pv 0) pk_nil)) pa_nil))))))
      (pss_cons (ps_set (i := 1) sc_law_by_name.nd rfl (Or.inl rfl) (pe_op op_cat (pv 1) (pe_lst (pa_cons (pe_xk T.x_InvalidExpression T.i_InvalidExpression T.t_InvalidExpression G_init_InvalidExpression gd (hr.mono (by decide)) pass0 (by rfl) T.k_InvalidExpression B_InvalidExpression.bk (pk_cons (pv 0) pk_nil)) (pa_cons (pe_xk T.x_InvalidClaim T.i_InvalidClaim T.t_InvalidClaim G_init_InvalidClaim gd (hr.mono (by decide)) pass0 (by rfl) T.k_InvalidClaim B_InvalidClaim.bk (pk_cons (pv 0) pk_nil)) (pa_cons (pe_xk T.x_InvalidClaims T.i_InvalidClaims T.t_InvalidClaims G_init_InvalidClaims gd (hr.mono (by decide)) pass0 (by rfl) T.k_InvalidClaims B_InvalidClaims.bk (pk_cons (pv 0) pk_nil)) (pa_cons (pe_xk T.x_InvalidFilling T.i_InvalidFilling T.t_InvalidFilling G_init_InvalidFilling gd (hr.mono (by decide)) pass0 (by rfl) T.k_InvalidFilling B_InvalidFilling.bk (pk_cons (pv 0) pk_nil)) pa_nil)))))))
      (pss_cons (ps_set (i := 1) sc_law_by_name.nd rfl (Or.inl rfl) (pe_op op_cat (pv 1) (pe_lst (pa_cons (pe_xk T.x_InvalidTable T.i_InvalidTable T.t_InvalidTable G_init_InvalidTable gd (hr.mono (by decide)) pass0 (by rfl) T.k_InvalidTable B_InvalidTable.bk (pk_cons (pv 0) pk_nil)) (pa_cons (pe_xk T.x_InvalidNames T.i_InvalidNames T.t_InvalidNames G_init_InvalidNames gd (hr.mono (by decide)) pass0 (by rfl) T.k_InvalidNames B_InvalidNames.bk (pk_cons (pv 0) pk_nil)) (pa_cons (pe_xk T.x_InvalidWidths T.i_InvalidWidths T.t_InvalidWidths G_init_InvalidWidths gd (hr.mono (by decide)) pass0 (by rfl) T.k_InvalidWidths B_InvalidWidths.bk (pk_cons (pv 0) pk_nil)) (pa_cons (pe_xk T.x_InvalidPaper T.i_InvalidPaper T.t_InvalidPaper G_init_InvalidPaper gd (hr.mono (by decide)) pass0 (by rfl) T.k_InvalidPaper B_InvalidPaper.bk (pk_cons (pv 0) pk_nil)) pa_nil)))))))
      (pss_one (ps_ret (pe_op op_cat (pe_op op_cat (pv 1) (pe_lst (pa_cons (pe_xk T.x_InvalidMachine T.i_InvalidMachine T.t_InvalidMachine G_init_InvalidMachine gd (hr.mono (by decide)) pass0 (by rfl) T.k_InvalidMachine B_InvalidMachine.bk (pk_cons (pv 0) pk_nil)) (pa_cons (pe_xk T.x_InvalidText T.i_InvalidText T.t_InvalidText G_init_InvalidText gd (hr.mono (by decide)) pass0 (by rfl) T.k_InvalidText B_InvalidText.bk (pk_cons (pv 0) pk_nil)) (pa_cons (pe_xk T.x_InvalidDeed T.i_InvalidDeed T.t_InvalidDeed G_init_InvalidDeed gd (hr.mono (by decide)) pass0 (by rfl) T.k_InvalidDeed B_InvalidDeed.bk (pk_cons (pv 0) pk_nil)) pa_nil))))) (pe_lst (pa_cons (pe_xk T.x_Unlike T.i_Unlike T.t_Unlike G_init_Unlike gd (hr.mono (by decide)) pass0 (by rfl) T.k_Unlike B_Unlike.bk (pk_cons (pv 0) pk_nil)) (pa_cons (pe_xk T.x_TooMany T.i_TooMany T.t_TooMany G_init_TooMany gd (hr.mono (by decide)) pass0 (by rfl) T.k_TooMany B_TooMany.bk (pk_cons (pv 0) pk_nil)) pa_nil))))))))), ?_⟩
    refine seqL (setL (((Ev.mlst (Eva.mcons (Ev.mx1 rfl) (Eva.mcons (Ev.mx1 rfl) (Eva.mcons (Ev.mx1 rfl) (Eva.mcons (Ev.mx1 rfl) Eva.mnil)))) (by show 4 ≤ 1000; decide)) : Ev Tr (ML y [T.c_InvalidNumber, T.c_InvalidName, T.c_InvalidWidth, T.c_InvalidWord]) _ [some y, none]) H _ trivial ?_))
    rintro x0 H0 e0 m0
    dsimp only [gName]
    refine seqL (setL (mcat m0 rfl ((Ev.mlst (Eva.mcons (Ev.mx1 rfl) (Eva.mcons (Ev.mx1 rfl) (Eva.mcons (Ev.mx1 rfl) (Eva.mcons (Ev.mx1 rfl) Eva.mnil)))) (by show 4 ≤ 1000; decide)) : Ev Tr (ML y [T.c_InvalidExpression, T.c_InvalidClaim, T.c_InvalidClaims, T.c_InvalidFilling]) _ [some y, some x0]) (by show 8 ≤ 1000; decide) ?_))
    rintro x1 H1 e1 m1
    dsimp only [gName]
    refine seqL (setL (mcat m1 rfl ((Ev.mlst (Eva.mcons (Ev.mx1 rfl) (Eva.mcons (Ev.mx1 rfl) (Eva.mcons (Ev.mx1 rfl) (Eva.mcons (Ev.mx1 rfl) Eva.mnil)))) (by show 4 ≤ 1000; decide)) : Ev Tr (ML y [T.c_InvalidTable, T.c_InvalidNames, T.c_InvalidWidths, T.c_InvalidPaper]) _ [some y, some x1]) (by show 12 ≤ 1000; decide) ?_))
    rintro x2 H2 e2 m2
    dsimp only [gName]
    refine retL (mcat m2 rfl ((Ev.mlst (Eva.mcons (Ev.mx1 rfl) (Eva.mcons (Ev.mx1 rfl) (Eva.mcons (Ev.mx1 rfl) Eva.mnil))) (by show 3 ≤ 1000; decide)) : Ev Tr (ML y [T.c_InvalidMachine, T.c_InvalidText, T.c_InvalidDeed]) _ [some y, some x2]) (by show 15 ≤ 1000; decide) ?_)
    rintro x3 H3 e3 m3
    refine mcatB m3 ((Ev.mlst (Eva.mcons (Ev.mx1 rfl) (Eva.mcons (Ev.mx1 rfl) Eva.mnil)) (by show 2 ≤ 1000; decide)) : Ev Tr (ML y [T.c_Unlike, T.c_TooMany]) _ [some y, some x2]) (by show 17 ≤ 1000; decide) ?_
    rintro x4 H4 e4 m4
    exact q x4 H4 ((((e0.trans e1).trans e2).trans e3).trans e4) m4
theorem ok_law_empty (T : Tx K mg) : FnG P w K mg base CX0 3 T.a_law_empty T.d_law_empty [] (spNone T.ci) := by
  have G_init_InvalidNumber := ok_init_InvalidNumber (P := P) (w := w) (base := base) T
  have B_InvalidNumber := bi_InvalidNumber T
  have G_init_InvalidName := ok_init_InvalidName (P := P) (w := w) (base := base) T
  have B_InvalidName := bi_InvalidName T
  have G_init_InvalidWidth := ok_init_InvalidWidth (P := P) (w := w) (base := base) T
  have B_InvalidWidth := bi_InvalidWidth T
  have G_init_InvalidWord := ok_init_InvalidWord (P := P) (w := w) (base := base) T
  have B_InvalidWord := bi_InvalidWord T
  have G_init_InvalidExpression := ok_init_InvalidExpression (P := P) (w := w) (base := base) T
  have B_InvalidExpression := bi_InvalidExpression T
  have G_init_InvalidClaim := ok_init_InvalidClaim (P := P) (w := w) (base := base) T
  have B_InvalidClaim := bi_InvalidClaim T
  have G_init_InvalidClaims := ok_init_InvalidClaims (P := P) (w := w) (base := base) T
  have B_InvalidClaims := bi_InvalidClaims T
  have G_init_InvalidFilling := ok_init_InvalidFilling (P := P) (w := w) (base := base) T
  have B_InvalidFilling := bi_InvalidFilling T
  have G_init_InvalidTable := ok_init_InvalidTable (P := P) (w := w) (base := base) T
  have B_InvalidTable := bi_InvalidTable T
  have G_init_InvalidNames := ok_init_InvalidNames (P := P) (w := w) (base := base) T
  have B_InvalidNames := bi_InvalidNames T
  have G_init_InvalidWidths := ok_init_InvalidWidths (P := P) (w := w) (base := base) T
  have B_InvalidWidths := bi_InvalidWidths T
  have G_init_InvalidPaper := ok_init_InvalidPaper (P := P) (w := w) (base := base) T
  have B_InvalidPaper := bi_InvalidPaper T
  have G_init_InvalidMachine := ok_init_InvalidMachine (P := P) (w := w) (base := base) T
  have B_InvalidMachine := bi_InvalidMachine T
  have G_init_InvalidText := ok_init_InvalidText (P := P) (w := w) (base := base) T
  have B_InvalidText := bi_InvalidText T
  have G_init_InvalidDeed := ok_init_InvalidDeed (P := P) (w := w) (base := base) T
  have B_InvalidDeed := bi_InvalidDeed T
  have G_init_Unlike := ok_init_Unlike (P := P) (w := w) (base := base) T
  have B_Unlike := bi_Unlike T
  have G_init_TooMany := ok_init_TooMany (P := P) (w := w) (base := base) T
  have B_TooMany := bi_TooMany T
  refine bodyG0 T.F_law_empty sc_law_empty (fun vs H Q E h => ?_) (fun cdv A outer s H vs Q E gd hr h => ?_)
  · obtain ⟨rfl, _⟩ := h; rfl
  · obtain ⟨rfl, q⟩ := h
    refine ⟨_, (pss_cons (ps_set (i := 0) sc_law_empty.nd rfl (Or.inl rfl) (pe_lst (pa_cons (pe_x0 T.x_InvalidNumber T.i_InvalidNumber T.t_InvalidNumber G_init_InvalidNumber gd (hr.mono (by decide)) pass0 (by rfl) T.k_InvalidNumber B_InvalidNumber.b1) (pa_cons (pe_x0 T.x_InvalidName T.i_InvalidName T.t_InvalidName G_init_InvalidName gd (hr.mono (by decide)) pass0 (by rfl) T.k_InvalidName B_InvalidName.b1) (pa_cons (pe_x0 T.x_InvalidWidth T.i_InvalidWidth T.t_InvalidWidth G_init_InvalidWidth gd (hr.mono (by decide)) pass0 (by rfl) T.k_InvalidWidth B_InvalidWidth.b1) (pa_cons (pe_x0 T.x_InvalidWord T.i_InvalidWord T.t_InvalidWord G_init_InvalidWord gd (hr.mono (by decide)) pass0 (by rfl) T.k_InvalidWord B_InvalidWord.b1) (pa_cons (pe_x0 T.x_InvalidExpression T.i_InvalidExpression T.t_InvalidExpression G_init_InvalidExpression gd (hr.mono (by decide)) pass0 (by rfl) T.k_InvalidExpression B_InvalidExpression.b1) (pa_cons (pe_x0 T.x_InvalidClaim T.i_InvalidClaim T.t_InvalidClaim G_init_InvalidClaim gd (hr.mono (by decide)) pass0 (by rfl) T.k_InvalidClaim B_InvalidClaim.b1) pa_nil))))))))
      (pss_cons (ps_set (i := 0) sc_law_empty.nd rfl (Or.inl rfl) (pe_op op_cat (pv 0) (pe_lst (pa_cons (pe_x0 T.x_InvalidClaims T.i_InvalidClaims T.t_InvalidClaims G_init_InvalidClaims gd (hr.mono (by decide)) pass0 (by rfl) T.k_InvalidClaims B_InvalidClaims.b1) (pa_cons (pe_x0 T.x_InvalidFilling T.i_InvalidFilling T.t_InvalidFilling G_init_InvalidFilling gd (hr.mono (by decide)) pass0 (by rfl) T.k_InvalidFilling B_InvalidFilling.b1) (pa_cons (pe_x0 T.x_InvalidTable T.i_InvalidTable T.t_InvalidTable G_init_InvalidTable gd (hr.mono (by decide)) pass0 (by rfl) T.k_InvalidTable B_InvalidTable.b1) (pa_cons (pe_x0 T.x_InvalidNames T.i_InvalidNames T.t_InvalidNames G_init_InvalidNames gd (hr.mono (by decide)) pass0 (by rfl) T.k_InvalidNames B_InvalidNames.b1) (pa_cons (pe_x0 T.x_InvalidWidths T.i_InvalidWidths T.t_InvalidWidths G_init_InvalidWidths gd (hr.mono (by decide)) pass0 (by rfl) T.k_InvalidWidths B_InvalidWidths.b1) (pa_cons (pe_x0 T.x_InvalidPaper T.i_InvalidPaper T.t_InvalidPaper G_init_InvalidPaper gd (hr.mono (by decide)) pass0 (by rfl) T.k_InvalidPaper B_InvalidPaper.b1) pa_nil)))))))))
      (pss_one (ps_ret (pe_op op_cat (pv 0) (pe_lst (pa_cons (pe_x0 T.x_InvalidMachine T.i_InvalidMachine T.t_InvalidMachine G_init_InvalidMachine gd (hr.mono (by decide)) pass0 (by rfl) T.k_InvalidMachine B_InvalidMachine.b1) (pa_cons (pe_x0 T.x_InvalidText T.i_InvalidText T.t_InvalidText G_init_InvalidText gd (hr.mono (by decide)) pass0 (by rfl) T.k_InvalidText B_InvalidText.b1) (pa_cons (pe_x0 T.x_InvalidDeed T.i_InvalidDeed T.t_InvalidDeed G_init_InvalidDeed gd (hr.mono (by decide)) pass0 (by rfl) T.k_InvalidDeed B_InvalidDeed.b1) (pa_cons (pe_x0 T.x_Unlike T.i_Unlike T.t_Unlike G_init_Unlike gd (hr.mono (by decide)) pass0 (by rfl) T.k_Unlike B_Unlike.b1) (pa_cons (pe_x0 T.x_TooMany T.i_TooMany T.t_TooMany G_init_TooMany gd (hr.mono (by decide)) pass0 (by rfl) T.k_TooMany B_TooMany.b1) pa_nil))))))))))), ?_⟩
    refine seqL (setL (((Ev.mlst (Eva.mcons Ev.mx0 (Eva.mcons Ev.mx0 (Eva.mcons Ev.mx0 (Eva.mcons Ev.mx0 (Eva.mcons Ev.mx0 (Eva.mcons Ev.mx0 Eva.mnil)))))) (by show 6 ≤ 1000; decide)) : Ev Tr (ML V.non [T.c_InvalidNumber, T.c_InvalidName, T.c_InvalidWidth, T.c_InvalidWord, T.c_InvalidExpression, T.c_InvalidClaim]) _ [none]) H _ trivial ?_))
    rintro x0 H0 e0 m0
    dsimp only [gName]
    refine seqL (setL (mcat m0 rfl ((Ev.mlst (Eva.mcons Ev.mx0 (Eva.mcons Ev.mx0 (Eva.mcons Ev.mx0 (Eva.mcons Ev.mx0 (Eva.mcons Ev.mx0 (Eva.mcons Ev.mx0 Eva.mnil)))))) (by show 6 ≤ 1000; decide)) : Ev Tr (ML V.non [T.c_InvalidClaims, T.c_InvalidFilling, T.c_InvalidTable, T.c_InvalidNames, T.c_InvalidWidths, T.c_InvalidPaper]) _ [some x0]) (by show 12 ≤ 1000; decide) ?_))
    rintro x1 H1 e1 m1
    dsimp only [gName]
    refine retL (mcat m1 rfl ((Ev.mlst (Eva.mcons Ev.mx0 (Eva.mcons Ev.mx0 (Eva.mcons Ev.mx0 (Eva.mcons Ev.mx0 (Eva.mcons Ev.mx0 Eva.mnil))))) (by show 5 ≤ 1000; decide)) : Ev Tr (ML V.non [T.c_InvalidMachine, T.c_InvalidText, T.c_InvalidDeed, T.c_Unlike, T.c_TooMany]) _ [some x1]) (by show 17 ≤ 1000; decide) ?_)
    rintro x2 H2 e2 m2
    exact q x2 H2 ((e0.trans e1).trans e2) m2
def spKinds (K : PySem.W.Frag) (cl : List Addr) : Sp := fun vs H Q _ => ∃ (a C : Addr) (d : Option Addr) (i : Nat), vs = [.ref a] ∧ cl[i]? = some C ∧ XcF K C ∧ SX a C d H ∧ ∀ x H', Same H H' → Dt H' x (.list ((List.range 19).map fun j => PyData.bool (decide (i = j)))) → Q x H'
theorem ok_law_kinds (T : Tx K mg) : FnG P w K mg base CX0 1 T.a_law_kinds T.d_law_kinds ["_law_error"] (spKinds K T.cl) := by
  refine bodyG0 T.F_law_kinds sc_law_kinds (fun vs H Q E h => ?_) (fun cdv A outer s H vs Q E gd hr h => ?_)
  · obtain ⟨a, C, d, i, rfl, _⟩ := h; rfl
  · obtain ⟨a, C, d, i, rfl, hC, xc, sx, q⟩ := h
    refine ⟨_, (pss_cons (ps_set (i := 1) sc_law_kinds.nd rfl (Or.inl rfl) (pe_lst (pa_cons (pe_callB (call_isX (K := K) rfl) (by rfl) T.z_isinstance (by decide +kernel) (pa_cons (pv 0) (pa_cons (C8.pe_gc (by rfl) T.kk_InvalidNumber) pa_nil))) (pa_cons (pe_callB (call_isX (K := K) rfl) (by rfl) T.z_isinstance (by decide +kernel) (pa_cons (pv 0) (pa_cons (C8.pe_gc (by rfl) T.kk_InvalidName) pa_nil))) (pa_cons (pe_callB (call_isX (K := K) rfl) (by rfl) T.z_isinstance (by decide +kernel) (pa_cons (pv 0) (pa_cons (C8.pe_gc (by rfl) T.kk_InvalidWidth) pa_nil))) pa_nil)))))
      (pss_cons (ps_set (i := 1) sc_law_kinds.nd rfl (Or.inl rfl) (pe_op op_cat (pv 1) (pe_lst (pa_cons (pe_callB (call_isX (K := K) rfl) (by rfl) T.z_isinstance (by decide +kernel) (pa_cons (pv 0) (pa_cons (C8.pe_gc (by rfl) T.kk_InvalidWord) pa_nil))) (pa_cons (pe_callB (call_isX (K := K) rfl) (by rfl) T.z_isinstance (by decide +kernel) (pa_cons (pv 0) (pa_cons (C8.pe_gc (by rfl) T.kk_InvalidExpression) pa_nil))) (pa_cons (pe_callB (call_isX (K := K) rfl) (by rfl) T.z_isinstance (by decide +kernel) (pa_cons (pv 0) (pa_cons (C8.pe_gc (by rfl) T.kk_InvalidClaim) pa_nil))) pa_nil))))))
      (pss_cons (ps_set (i := 1) sc_law_kinds.nd rfl (Or.inl rfl) (pe_op op_cat (pv 1) (pe_lst (pa_cons (pe_callB (call_isX (K := K) rfl) (by rfl) T.z_isinstance (by decide +kernel) (pa_cons (pv 0) (pa_cons (C8.pe_gc (by rfl) T.kk_InvalidClaims) pa_nil))) (pa_cons (pe_callB (call_isX (K := K) rfl) (by rfl) T.z_isinstance (by decide +kernel) (pa_cons (pv 0) (pa_cons (C8.pe_gc (by rfl) T.kk_InvalidFilling) pa_nil))) (pa_cons (pe_callB (call_isX (K := K) rfl) (by rfl) T.z_isinstance (by decide +kernel) (pa_cons (pv 0) (pa_cons (C8.pe_gc (by rfl) T.kk_InvalidTable) pa_nil))) pa_nil))))))
      (pss_cons (ps_set (i := 1) sc_law_kinds.nd rfl (Or.inl rfl) (pe_op op_cat (pv 1) (pe_lst (pa_cons (pe_callB (call_isX (K := K) rfl) (by rfl) T.z_isinstance (by decide +kernel) (pa_cons (pv 0) (pa_cons (C8.pe_gc (by rfl) T.kk_InvalidNames) pa_nil))) (pa_cons (pe_callB (call_isX (K := K) rfl) (by rfl) T.z_isinstance (by decide +kernel) (pa_cons (pv 0) (pa_cons (C8.pe_gc (by rfl) T.kk_InvalidWidths) pa_nil))) (pa_cons (pe_callB (call_isX (K := K) rfl) (by rfl) T.z_isinstance (by decide +kernel) (pa_cons (pv 0) (pa_cons (C8.pe_gc (by rfl) T.kk_InvalidPaper) pa_nil))) pa_nil))))))
      (pss_cons (ps_set (i := 1) sc_law_kinds.nd rfl (Or.inl rfl) (pe_op op_cat (pv 1) (pe_lst (pa_cons (pe_callB (call_isX (K := K) rfl) (by rfl) T.z_isinstance (by decide +kernel) (pa_cons (pv 0) (pa_cons (C8.pe_gc (by rfl) T.kk_InvalidMachine) pa_nil))) (pa_cons (pe_callB (call_isX (K := K) rfl) (by rfl) T.z_isinstance (by decide +kernel) (pa_cons (pv 0) (pa_cons (C8.pe_gc (by rfl) T.kk_InvalidText) pa_nil))) (pa_cons (pe_callB (call_isX (K := K) rfl) (by rfl) T.z_isinstance (by decide +kernel) (pa_cons (pv 0) (pa_cons (C8.pe_gc (by rfl) T.kk_InvalidDeed) pa_nil))) pa_nil))))))
      (pss_cons (ps_set (i := 1) sc_law_kinds.nd rfl (Or.inl rfl) (pe_op op_cat (pv 1) (pe_lst (pa_cons (pe_callB (call_isX (K := K) rfl) (by rfl) T.z_isinstance (by decide +kernel) (pa_cons (pv 0) (pa_cons (C8.pe_gc (by rfl) T.kk_Unlike) pa_nil))) (pa_cons (pe_callB (call_isX (K := K) rfl) (by rfl) T.z_isinstance (by decide +kernel) (pa_cons (pv 0) (pa_cons (C8.pe_gc (by rfl) T.kk_TooMany) pa_nil))) pa_nil)))))
      (pss_one (ps_ret (pe_op op_cat (pv 1) (pe_lst (pa_cons (pe_callB (call_isX (K := K) rfl) (by rfl) T.z_isinstance (by decide +kernel) (pa_cons (pv 0) (pa_cons (C8.pe_gc (by rfl) T.kk_NothingToUndo) pa_nil))) (pa_cons (pe_callB (call_isX (K := K) rfl) (by rfl) T.z_isinstance (by decide +kernel) (pa_cons (pv 0) (pa_cons (C8.pe_gc (by rfl) T.kk_NothingToRedo) pa_nil))) pa_nil)))))))))))), ?_⟩
    refine seqL (setL (((Ev.slst (Eva.scons SX.kept (Ev.isx xc (T.kit i 0 C _ hC rfl) rfl) (Eva.scons SX.kept (Ev.isx xc (T.kit i 1 C _ hC rfl) rfl) (Eva.scons SX.kept (Ev.isx xc (T.kit i 2 C _ hC rfl) rfl) Eva.snil))) (by show 3 ≤ 1000; decide)) : Ev (SX a C d) (Ed (.list [.bool (decide (i = 0)), .bool (decide (i = 1)), .bool (decide (i = 2))])) _ [some (.ref a), none]) H _ sx ?_))
    rintro x0 H0 e0 m0
    have s0 := SX.kept _ _ sx e0
    dsimp only [gName]
    refine seqL (setL (scat SX.kept m0 s0 rfl ((Ev.slst (Eva.scons SX.kept (Ev.isx xc (T.kit i 3 C _ hC rfl) rfl) (Eva.scons SX.kept (Ev.isx xc (T.kit i 4 C _ hC rfl) rfl) (Eva.scons SX.kept (Ev.isx xc (T.kit i 5 C _ hC rfl) rfl) Eva.snil))) (by show 3 ≤ 1000; decide)) : Ev (SX a C d) (Ed (.list [.bool (decide (i = 3)), .bool (decide (i = 4)), .bool (decide (i = 5))])) _ [some (.ref a), some x0]) (by show 6 ≤ 1000; decide) ?_))
    rintro x1 H1 e1 m1
    have s1 := SX.kept _ _ s0 e1
    dsimp only [gName]
    refine seqL (setL (scat SX.kept m1 s1 rfl ((Ev.slst (Eva.scons SX.kept (Ev.isx xc (T.kit i 6 C _ hC rfl) rfl) (Eva.scons SX.kept (Ev.isx xc (T.kit i 7 C _ hC rfl) rfl) (Eva.scons SX.kept (Ev.isx xc (T.kit i 8 C _ hC rfl) rfl) Eva.snil))) (by show 3 ≤ 1000; decide)) : Ev (SX a C d) (Ed (.list [.bool (decide (i = 6)), .bool (decide (i = 7)), .bool (decide (i = 8))])) _ [some (.ref a), some x1]) (by show 9 ≤ 1000; decide) ?_))
    rintro x2 H2 e2 m2
    have s2 := SX.kept _ _ s1 e2
    dsimp only [gName]
    refine seqL (setL (scat SX.kept m2 s2 rfl ((Ev.slst (Eva.scons SX.kept (Ev.isx xc (T.kit i 9 C _ hC rfl) rfl) (Eva.scons SX.kept (Ev.isx xc (T.kit i 10 C _ hC rfl) rfl) (Eva.scons SX.kept (Ev.isx xc (T.kit i 11 C _ hC rfl) rfl) Eva.snil))) (by show 3 ≤ 1000; decide)) : Ev (SX a C d) (Ed (.list [.bool (decide (i = 9)), .bool (decide (i = 10)), .bool (decide (i = 11))])) _ [some (.ref a), some x2]) (by show 12 ≤ 1000; decide) ?_))
    rintro x3 H3 e3 m3
    have s3 := SX.kept _ _ s2 e3
    dsimp only [gName]
    refine seqL (setL (scat SX.kept m3 s3 rfl ((Ev.slst (Eva.scons SX.kept (Ev.isx xc (T.kit i 12 C _ hC rfl) rfl) (Eva.scons SX.kept (Ev.isx xc (T.kit i 13 C _ hC rfl) rfl) (Eva.scons SX.kept (Ev.isx xc (T.kit i 14 C _ hC rfl) rfl) Eva.snil))) (by show 3 ≤ 1000; decide)) : Ev (SX a C d) (Ed (.list [.bool (decide (i = 12)), .bool (decide (i = 13)), .bool (decide (i = 14))])) _ [some (.ref a), some x3]) (by show 15 ≤ 1000; decide) ?_))
    rintro x4 H4 e4 m4
    have s4 := SX.kept _ _ s3 e4
    dsimp only [gName]
    refine seqL (setL (scat SX.kept m4 s4 rfl ((Ev.slst (Eva.scons SX.kept (Ev.isx xc (T.kit i 15 C _ hC rfl) rfl) (Eva.scons SX.kept (Ev.isx xc (T.kit i 16 C _ hC rfl) rfl) Eva.snil)) (by show 2 ≤ 1000; decide)) : Ev (SX a C d) (Ed (.list [.bool (decide (i = 15)), .bool (decide (i = 16))])) _ [some (.ref a), some x4]) (by show 17 ≤ 1000; decide) ?_))
    rintro x5 H5 e5 m5
    have s5 := SX.kept _ _ s4 e5
    dsimp only [gName]
    refine retL (scat SX.kept m5 s5 rfl ((Ev.slst (Eva.scons SX.kept (Ev.isx xc (T.kit i 17 C _ hC rfl) rfl) (Eva.scons SX.kept (Ev.isx xc (T.kit i 18 C _ hC rfl) rfl) Eva.snil)) (by show 2 ≤ 1000; decide)) : Ev (SX a C d) (Ed (.list [.bool (decide (i = 17)), .bool (decide (i = 18))])) _ [some (.ref a), some x5]) (by show 19 ≤ 1000; decide) ?_)
    rintro x6 H6 e6 m6
    have s6 := SX.kept _ _ s5 e6
    exact q x6 H6 ((((((e0.trans e1).trans e2).trans e3).trans e4).trans e5).trans e6) m6
end

end K05

set_option Elab.async false
set_option linter.all false
set_option maxRecDepth 100000
set_option maxHeartbeats 4000000
namespace K05
open PySem PySem.Spec PyProof.Rows L2 Hw

section
variable {K : PySem.W.Frag} {mg : Str → Option Value}
theorem Tx.xcs (T : Tx K mg) : ∀ (i : Nat) (C : Addr), T.cl[i]? = some C → XcF K C
  | 0, _, h => (Option.some.inj h) ▸ T.x_InvalidNumber
  | 1, _, h => (Option.some.inj h) ▸ T.x_InvalidName
  | 2, _, h => (Option.some.inj h) ▸ T.x_InvalidWidth
  | 3, _, h => (Option.some.inj h) ▸ T.x_InvalidWord
  | 4, _, h => (Option.some.inj h) ▸ T.x_InvalidExpression
  | 5, _, h => (Option.some.inj h) ▸ T.x_InvalidClaim
  | 6, _, h => (Option.some.inj h) ▸ T.x_InvalidClaims
  | 7, _, h => (Option.some.inj h) ▸ T.x_InvalidFilling
  | 8, _, h => (Option.some.inj h) ▸ T.x_InvalidTable
  | 9, _, h => (Option.some.inj h) ▸ T.x_InvalidNames
  | 10, _, h => (Option.some.inj h) ▸ T.x_InvalidWidths
  | 11, _, h => (Option.some.inj h) ▸ T.x_InvalidPaper
  | 12, _, h => (Option.some.inj h) ▸ T.x_InvalidMachine
  | 13, _, h => (Option.some.inj h) ▸ T.x_InvalidText
  | 14, _, h => (Option.some.inj h) ▸ T.x_InvalidDeed
  | 15, _, h => (Option.some.inj h) ▸ T.x_Unlike
  | 16, _, h => (Option.some.inj h) ▸ T.x_TooMany
  | 17, _, h => (Option.some.inj h) ▸ T.x_NothingToUndo
  | 18, _, h => (Option.some.inj h) ▸ T.x_NothingToRedo
  | n + 19, _, h => by cases (show (none : Option Addr) = some _ from h)

theorem Tx.ci_cl (T : Tx K mg) {i : Nat} {C : Addr} (h : T.ci[i]? = some C) : T.cl[i]? = some C := by
  have e : T.cl = T.ci ++ [T.c_NothingToUndo, T.c_NothingToRedo] := rfl
  rw [e, List.getElem?_append_left (List.getElem?_eq_some_iff.mp h).1]
  exact h
end
theorem MX.upd {y : V} {C : Addr} {x : V} {H : Hp} {od : Addr} {l : List V} {o : HO} (m : MX y C x H) (h : H od = some (.lst l)) : MX y C x (upd H od o) := by
  obtain ⟨a, d, rfl, h1, h2⟩ := m
  have n1 : a ≠ od := fun e => by
    rw [e, h] at h1
    exact nomatch (show HO.lst l = HO.ext _ from Option.some.inj h1)
  have n2 : d ≠ od := fun e => by
    rw [e, h] at h2
    exact nomatch (show HO.lst l = HO.ext _ from Option.some.inj h2)
  exact ⟨a, d, rfl, by rw [upd_ne n1]; exact h1, by rw [upd_ne n2]; exact h2⟩
theorem Hw.MXs.upd {y : V} {H : Hp} {od : Addr} {l : List V} {o : HO} (h : H od = some (.lst l)) : ∀ {Cs : List Addr} {xs : List V}, MXs y H Cs xs → MXs y (L2.upd H od o) Cs xs
  | _, _, .nil => .nil
  | _, _, .cons m r => .cons (MX.upd m h) (Hw.MXs.upd h r)
/-- a value that is its own like and has a text -/
def YOk (y : V) (H : Hp) : Prop := (∃ d, Dt H y d ∧ Nice d) ∨ ∃ (a : Addr) (k : Str) (i : Int), y = .ref a ∧ H a = some (.dK [(.inr k, .int i)]) ∧ Shows (.dict [(.str k, .int i)])
theorem YOk.to {y : V} {H H' : Hp} (h : YOk y H) (e : Same H H') : YOk y H' := by
  rcases h with ⟨d, hd, n⟩ | ⟨a, k, i, rfl, ha, s⟩
  · exact .inl ⟨d, hd.to e, n⟩
  · exact .inr ⟨a, k, i, rfl, e _ _ ha, s⟩
theorem YOk.eq {y : V} {H : Hp} {Q : VK} (h : YOk y H) (q : Q (.bl true) H) : rEqS y y H Q := by
  rcases h with ⟨d, hd, n⟩ | ⟨a, k, i, rfl, ha, s⟩
  · refine .inl ⟨d, d, hd, hd, n.shaped, n.shaped, ?_⟩
    rw [n.refl]
    exact q
  · exact .inr ⟨a, k, i, rfl, rfl, ha, q⟩
theorem YOk.shows {y : V} {H : Hp} (h : YOk y H) : ∃ d, Dt H y d ∧ Shows d := by
  rcases h with ⟨d, hd, n⟩ | ⟨a, k, i, rfl, ha, s⟩
  · exact ⟨d, hd, n.shows⟩
  · exact ⟨_, .dic [(k, i)] ha, s⟩
theorem bools_nice (f : Nat → Bool) (n : Nat) (hn : n ≤ 1000) : Nice (.list ((List.range n).map fun j => PyData.bool (f j))) := by
  refine Bnd.nice (k := 1) (b := 1000) (Bnd.list (k := 0) (b := 0) (n := 1000) (fun d hd => ?_) (by rw [List.length_map, List.length_range]; exact hn) (by decide)) (by decide) (by decide)
  obtain ⟨j, _, rfl⟩ := List.mem_map.mp hd
  exact .bl _
theorem range_bls {H : Hp} (f : Nat → Bool) (n : Nat) : DtAll H ((List.range n).map fun j => V.bl (f j)) ((List.range n).map fun j => PyData.bool (f j)) := by
  have := DtAll.bls (H := H) ((List.range n).map f)
  rw [List.map_map, List.map_map] at this
  exact this
section
variable {P : Program} {w : World} {K : PySem.W.Frag} {mg : Str → Option Value} {base : Heap}
def spRow (ci : List Addr) : Sp := fun vs H Q _ => ∃ x y : V, vs = [x, y] ∧ ML y ci x H ∧ YOk y H ∧ ∀ H', Same H H' → Q (.bl true) H'
theorem ok_law_row_right (T : Tx K mg) : FnG P w K mg base CX0 4 T.a_law_row_right T.d_law_row_right ["_law_made_here", "_law_value_now"] (spRow T.ci) := by
  have G_law_kinds := ok_law_kinds (P := P) (w := w) (base := base) T
  refine bodyG0 T.F_law_row_right sc_law_row_right (fun vs H Q E h => ?_) (fun cdv A outer s H vs Q E gd hr h => ?_)
  · obtain ⟨x, y, rfl, _⟩ := h; rfl
  · obtain ⟨x, y, rfl, ⟨p, xs, rfl, hp, hm⟩, yo, q⟩ := h
    refine ⟨_, (pss_cons (ps_for PassesOwn.never rfl (pi_enumK (K := K) rfl (by rfl) T.z_enumerate (pa_cons (pv 0) pa_nil)) (pg_tup (by rfl) (pgs_cons (pg_name (i := 2) sc_law_row_right.nd rfl (Or.inr rfl)) (pgs_cons (pg_name (i := 3) sc_law_row_right.nd rfl (Or.inl rfl)) pgs_nil))) (pss_cons (ps_if (PW.pt (pw_or (pt_not (pt_val (pe_callB (call_isX (K := K) rfl) (by rfl) T.z_isinstance (by decide +kernel) (pa_cons (pv 3) (pa_cons (C8.pe_gc (by rfl) T.kk_ClaimError) pa_nil))))) (pw_or1 (pt_not (pt_val (pe_callB (call_isX (K := K) rfl) (by rfl) T.z_isinstance (by decide +kernel) (pa_cons (pv 3) (pa_cons (pe_bltn (v := .ty "ValueError") (by rfl) T.z_ValueError (by decide +kernel) rfl) pa_nil)))))))) (pss_one (ps_ret pe_bl)) pss_nil)
      (pss_cons (ps_if (pt_cmpR (op_neT hr.units) (pe_g G_law_kinds gd (hr.mono (by decide)) (by rfl) T.g_law_kinds T.F_law_kinds.kp T.b_law_kinds .nil pass0 (pa_cons (pv 3) pa_nil)) (pe_lc (own := [("_law_place", 4)]) (g := gName 4) (tt := tYes) rfl sc_law_row_right.nd (pi_range1 (by rfl) T.z_range (pa_cons pe_int pa_nil)) (blkOk_by (N := ["_law_made_here", "_law_value_now", "_law_at", "_law_error", "_law_place"]) (sc := defScope s_law_row_right) (by decide +kernel)) (fun _ _ _ _ _ => (pg_name (i := 4) sc_law_row_right.nd rfl (Or.inl rfl))) (fun _ _ _ _ _ => pts_nil) (fun _ _ _ _ _ => (pe_cmpR op_eq (pv 4) (pv 2) (nomark _)))) (nomark _)) (pss_one (ps_ret pe_bl)) pss_nil)
      (pss_one (ps_if (PW.pt (pw_or (pt_not (pt_cmpR (op_eqS hr.units) (pe_xv (K := K) rfl (pv 3)) (pv 1) (nomark _))) (pw_or1 (pt_cmpR op_ne (pe_callB (call_reprT gd hr.units) (by rfl) T.z_repr (by decide +kernel) (pa_cons (pe_xv (K := K) rfl (pv 3)) pa_nil)) (pe_callB (call_reprT gd hr.units) (by rfl) T.z_repr (by decide +kernel) (pa_cons (pv 1) pa_nil)) (nomark _))))) (pss_one (ps_ret pe_bl)) pss_nil)))))
      (pss_one (ps_ret (pe_cmpR op_eq (pe_callB (call_lenK (K := K) rfl) (by rfl) T.z_len (by decide +kernel) (pa_cons (pv 0) pa_nil)) pe_int (nomark _))))), ?_⟩
    have sq : SqL K H p xs := .inl (.inl hp)
    refine ⟨_, rfl, p, xs, rfl, sq, ?_⟩
    refine for_it walk_enum (fun i σ H' => Same H H' ∧ ∃ z2 z3 : Option V, σ = [some (.ref p), some y, z2, z3, none]) ⟨Same.refl H, none, none, rfl⟩ (fun i σ H' _ e => e.1.seq sq) ?_ ?_
    · rintro i x σ H2 H3 hi ⟨s2, z2, z3, rfl⟩ ⟨T', x1, x2, rfl, hT, rfl, f1, f2⟩
      cases f1
      have f2 : xs[i]? = some x2 := f2
      obtain ⟨C, hC, a, d, rfl, ha, hd⟩ := hm.get i x2 f2
      have hcl := T.ci_cl hC
      have xc := T.xcs i C hcl
      have mem := List.mem_of_getElem? hcl
      have i17 : i < 17 := (List.getElem?_eq_some_iff.mp hC).1
      refine ⟨T', [.int i, .ref a], rfl, .inl (.inl upd_same), rfl, _, _, rfl, _, _, rfl, rfl, ?_⟩
      have s3 : Same H (upd H2 T' (.tup [.int i, .ref a])) := s2.trans (same_new' hT)
      generalize (upd H2 T' (.tup [V.int i, .ref a])) = H3 at s3
      have sx : SX a C (some d) H3 := ⟨s3 _ _ ha, fun e he => by cases he; exact ⟨_, s3 _ _ hd⟩⟩
      refine ⟨_, rfl, a, C, some d, .ref T.c_ClaimError, .ref T.c_ClaimError, true, rfl, .own _, xc, sx.1, sx.2, T.kitC C mem, true, rfl, iteF ?_⟩
      refine ⟨_, rfl, a, C, some d, .ty "ValueError", .type "ValueError", true, rfl, .ty _, xc, sx.1, sx.2, T.kitV C mem, true, rfl, iteF ?_⟩
      refine ⟨_, rfl, a, C, some d, i, rfl, hcl, xc, sx, fun k Hk ek dk => ?_⟩
      refine ⟨19, rfl, by decide, by decide, fun D hD => ?_⟩
      refine lc_range (lo := 0) (n := 19) (fun j H' => Same Hk H' ∧ H' D = some (.lst ((List.range j).map fun j : Nat => V.bl (decide (V.int (0 + (j : Int)) = V.int (i : Int)))))) ⟨same_new' hD, upd_same⟩ ?_ ?_
      · rintro j H4 hj ⟨s4, e4⟩
        refine ⟨rfl, yes_if ?_⟩
        exact ⟨_, rfl, _, rfl, rfl, lcS (f := fun j => V.bl (decide (V.int (0 + (j : Int)) = V.int (i : Int)))) hD s4 e4 (by omega)⟩
      · rintro H4 ⟨s4, e4⟩
        have ef : (fun j : Nat => decide (V.int (0 + (j : Int)) = V.int (i : Int))) = fun j => decide (i = j) := by
          funext j
          rw [vi]
          exact decide_eq_decide.mpr (by omega)
        have n1 := bools_nice (fun j => decide (i = j)) 19 (by decide)
        have d2 : Dt H4 (.ref D) (.list ((List.range 19).map fun j => PyData.bool (decide (i = j)))) := by
          refine .lst e4 ?_
          have := range_bls (H := H4) (fun j : Nat => decide (V.int (0 + (j : Int)) = V.int (i : Int))) 19
          rw [show (fun j : Nat => PyData.bool (decide (i = j))) = fun j => PyData.bool ((fun j : Nat => decide (V.int (0 + (j : Int)) = V.int (i : Int))) j) by rw [ef]]
          exact this
        refine ⟨_, _, dk.to s4, d2, n1.shaped, n1.shaped, _, rfl, ?_⟩
        rw [n1.refl]
        refine iteF ?_
        have s5 := (s3.trans ek).trans s4
        have yo := yo.to s5
        obtain ⟨dy, hy, sy⟩ := yo.shows
        refine ⟨_, rfl, a, C, d, _, y, rfl, xc.fld, xc.no, s5 _ _ ha, s5 _ _ hd, rfl, _, rfl, yo.eq ⟨true, rfl, iteF ?_⟩⟩
        refine ⟨_, rfl, a, C, d, _, y, rfl, xc.fld, xc.no, s5 _ _ ha, s5 _ _ hd, rfl, y, dy, rfl, hy, sy, _, rfl, y, dy, rfl, hy, sy, rfl, _, rfl, iteNS rfl ?_⟩
        exact ⟨s5, _, _, rfl⟩
    · rintro σ H2 ⟨s2, z2, z3, rfl⟩
      refine ⟨_, rfl, p, xs, rfl, .inl (s2.seq sq), rfl, ?_⟩
      rw [hm.len, vi]
      exact q H2 s2
def spLaw (K : PySem.W.Frag) : Sp := fun vs H Q _ => ∃ (a : Addr) (ns : List Int), vs = [.ref a] ∧ ns.length ≤ 63 ∧ SqL K H a (ns.map V.int) ∧ ∀ H' : Hp, Q (.bl true) H'
theorem mul_nice {r : Int} (h0 : 0 ≤ r) (h : r < 3) : Nice (.str (Txt.mul "ab" r)) := by
  rcases (show r = 0 ∨ r = 1 ∨ r = 2 by omega) with rfl | rfl | rfl
  · exact ⟨by decide +kernel, by decide +kernel, by decide +kernel⟩
  · exact ⟨by decide +kernel, by decide +kernel, by decide +kernel⟩
  · exact ⟨by decide +kernel, by decide +kernel, by decide +kernel⟩
theorem shows_dict : Shows (.dict [(.str "a", .int 1)]) := ⟨by decide +kernel, by rw [sizeLine_eq]; decide +kernel, by decide +kernel, fun _ => ⟨_, rfl⟩⟩
theorem ok_law (T : Tx K mg) : FnG P w K mg base CX0 5 T.a_law T.d_law ["_law_script"] (spLaw K) := by
  have G_law_generator := ok_law_generator (P := P) (w := w) (base := base) T
  have G_law_random := ok_law_random (P := P) (w := w) (base := base) T
  have G_law_made := ok_law_made (P := P) (w := w) (base := base) T
  have G_law_by_name := ok_law_by_name (P := P) (w := w) (base := base) T
  have G_law_empty := ok_law_empty (P := P) (w := w) (base := base) T
  have G_law_kinds := ok_law_kinds (P := P) (w := w) (base := base) T
  have G_law_row_right := ok_law_row_right (P := P) (w := w) (base := base) T
  refine bodyG0 T.F_law sc_law (fun vs H Q E h => ?_) (fun cdv A outer s H vs Q E gd hr h => ?_)
  · obtain ⟨a, ns, rfl, _⟩ := h; rfl
  · obtain ⟨a, ns, rfl, _, hS, q⟩ := h
    refine ⟨_, (pss_cons (ps_set (i := 1) sc_law.nd rfl (Or.inl rfl) (pe_g G_law_generator gd (hr.mono (by decide)) (by rfl) T.g_law_generator T.F_law_generator.kp T.b_law_generator .nil pass0 (pa_cons (pv 0) (pa_cons pe_int pa_nil))))
      (pss_cons (ps_set (i := 2) sc_law.nd rfl (Or.inr rfl) (pe_g G_law_random gd (hr.mono (by decide)) (by rfl) T.g_law_random T.F_law_random.kp T.b_law_random .nil pass0 (pa_cons (pv 1) (pa_cons (pe_op op_powW pe_int pe_int) pa_nil))))
      (pss_cons (ps_for PassesOwn.never rfl (pi_list (pe_lst (pa_cons pe_non (pa_cons (pv 2) (pa_cons (pe_op op_mulS pe_str (pe_g G_law_random gd (hr.mono (by decide)) (by rfl) T.g_law_random T.F_law_random.kp T.b_law_random .nil pass0 (pa_cons (pv 1) (pa_cons pe_int pa_nil)))) (pa_cons (pe_tup (pa_cons pe_str (pa_cons (pe_lst (pa_cons (pv 2) pa_nil)) pa_nil))) (pa_cons (pe_disp (pps_cons pe_str pe_int pps_nil) rfl rfl (by decide) (by decide)) (pa_cons pe_bl pa_nil)))))))) (pg_name (i := 3) sc_law.nd rfl (Or.inl rfl)) (pss_one (ps_if (PW.pt (pw_or (pt_not (pt_val (pe_g G_law_row_right gd (hr.mono (by decide)) (by rfl) T.g_law_row_right T.F_law_row_right.kp T.b_law_row_right .nil pass0 (pa_cons (pe_g G_law_made gd (hr.mono (by decide)) (by rfl) T.g_law_made T.F_law_made.kp T.b_law_made .nil pass0 (pa_cons (pv 3) pa_nil)) (pa_cons (pv 3) pa_nil))))) (pw_or1 (pt_not (pt_val (pe_g G_law_row_right gd (hr.mono (by decide)) (by rfl) T.g_law_row_right T.F_law_row_right.kp T.b_law_row_right .nil pass0 (pa_cons (pe_g G_law_by_name gd (hr.mono (by decide)) (by rfl) T.g_law_by_name T.F_law_by_name.kp T.b_law_by_name .nil pass0 (pa_cons (pv 3) pa_nil)) (pa_cons (pv 3) pa_nil)))))))) (pss_one (ps_ret pe_bl)) pss_nil)))
      (pss_cons (ps_if (pt_not (pt_val (pe_g G_law_row_right gd (hr.mono (by decide)) (by rfl) T.g_law_row_right T.F_law_row_right.kp T.b_law_row_right .nil pass0 (pa_cons (pe_g0 G_law_empty gd (hr.mono (by decide)) (by rfl) T.g_law_empty T.F_law_empty.kp T.b_law_empty .nil pass0) (pa_cons pe_non pa_nil))))) (pss_one (ps_ret pe_bl)) pss_nil)
      (pss_cons (ps_set (i := 4) sc_law.nd rfl (Or.inl rfl) (pe_lst (pa_cons (pv 2) pa_nil)))
      (pss_cons (ps_set (i := 5) sc_law.nd rfl (Or.inl rfl) (pe_g G_law_made gd (hr.mono (by decide)) (by rfl) T.g_law_made T.F_law_made.kp T.b_law_made .nil pass0 (pa_cons (pv 4) pa_nil)))
      (pss_cons (ps_expr (pe_bm PySem.F.plainAttrs_list PySem.F.slot_list_append PySem.F.type_list_append mt_append (pv 4) (pa_cons pe_int pa_nil)))
      (pss_cons (ps_if (pt_cmpR (op_neT hr.units) (pe_lc (own := [("_law_error", 6)]) (g := gName 6) rfl sc_law.nd (pi_list (pv 5)) (blkOk_by (N := ["_law_script", "_law_generator_here", "_law_number", "_law_value_now", "_law_odd", "_law_grown", "_law_error", "_law_at", "_law_place"]) (sc := defScope s_law) (by decide +kernel)) (fun _ _ _ _ _ => (pg_name (i := 6) sc_law.nd rfl (Or.inl rfl))) (fun _ _ _ _ _ => (pts_one (pt_cmpR (op_neT hr.units) (pe_xv (K := K) rfl (pv 6)) (pe_lst (pa_cons (pv 2) (pa_cons pe_int pa_nil))) (nomark _)))) (fun _ _ _ _ _ => (pv 6))) (pe_lst pa_nil) (nomark _)) (pss_one (ps_ret pe_bl)) pss_nil)
      (pss_cons (ps_for PassesOwn.never rfl (pi_enumK (K := K) rfl (by rfl) T.z_enumerate (pa_cons (pe_lst (pa_cons (pe_x00 (bmB := []) T.x_NothingToUndo T.q_NothingToUndo (by rfl) T.k_NothingToUndo) (pa_cons (pe_x00 (bmB := []) T.x_NothingToRedo T.q_NothingToRedo (by rfl) T.k_NothingToRedo) pa_nil))) pa_nil)) (pg_tup (by rfl) (pgs_cons (pg_name (i := 7) sc_law.nd rfl (Or.inr rfl)) (pgs_cons (pg_name (i := 6) sc_law.nd rfl (Or.inl rfl)) pgs_nil))) (pss_cons (ps_if (PW.pt (pw_or (pt_not (pt_val (pe_callB (call_isX (K := K) rfl) (by rfl) T.z_isinstance (by decide +kernel) (pa_cons (pv 6) (pa_cons (C8.pe_gc (by rfl) T.kk_ClaimError) pa_nil))))) (pw_or1 (pt_not (pt_val (pe_callB (call_isX (K := K) rfl) (by rfl) T.z_isinstance (by decide +kernel) (pa_cons (pv 6) (pa_cons (pe_bltn (v := .ty "ValueError") (by rfl) T.z_ValueError (by decide +kernel) rfl) pa_nil)))))))) (pss_one (ps_ret pe_bl)) pss_nil)
      (pss_one (ps_if (pt_cmpR (op_neT hr.units) (pe_g G_law_kinds gd (hr.mono (by decide)) (by rfl) T.g_law_kinds T.F_law_kinds.kp T.b_law_kinds .nil pass0 (pa_cons (pv 6) pa_nil)) (pe_lc (own := [("_law_place", 8)]) (g := gName 8) (tt := tYes) rfl sc_law.nd (pi_range1 (by rfl) T.z_range (pa_cons pe_int pa_nil)) (blkOk_by (N := ["_law_script", "_law_generator_here", "_law_number", "_law_value_now", "_law_odd", "_law_grown", "_law_error", "_law_at", "_law_place"]) (sc := defScope s_law) (by decide +kernel)) (fun _ _ _ _ _ => (pg_name (i := 8) sc_law.nd rfl (Or.inl rfl))) (fun _ _ _ _ _ => pts_nil) (fun _ _ _ _ _ => (pe_cmpR op_eq (pv 8) (pe_op op_add pe_int (pv 7)) (nomark _)))) (nomark _)) (pss_one (ps_ret pe_bl)) pss_nil))))
      (pss_one (ps_ret pe_bl))))))))))), ?_⟩
    have sz1 : ∀ {n : Nat}, n ≤ 1000 → n ≤ sizeLine := fun {n} h => by rw [sizeLine_eq]; omega
    refine ⟨_, rfl, a, ns, 0, rfl, by omega, hS, fun g H1 s t c e1 ng g1 go => ?_⟩
    refine ⟨_, rfl, _, _, rfl, rfl, powW_ok (n := 4) (j := 30) (by decide) (by decide), g, _, s, t, c, _, rfl, g1, go, by omega, by decide +kernel, by decide +kernel, fun n s1 c1 n0 n1 ok1 => ?_⟩
    have n38 : n.natAbs < 10 ^ 38 := by
      have e : ((10 : Int) ^ (30 : Int).toNat) = 1000000000000000000000000000000 := by decide +kernel
      omega
    -- the values
    refine ⟨_, rfl, _, rfl, g, 3, s1, t, c1, _, rfl, upd_same, ok1, by omega, by decide, by decide +kernel, fun r s2 c2 r0 r1 ok2 => ?_⟩
    refine ⟨"ab", r, rfl, rfl, r0, by omega, by decide, ?_⟩
    generalize (upd (upd H1 g (genL s1 t c1)) g (genL s2 t c2)) = H2
    refine ⟨_, rfl, sz1 (by show 1 ≤ 1000; decide), fun o ho => ⟨sz1 (by show 2 ≤ 1000; decide), fun tp htp => ?_⟩⟩
    have eo : (upd (upd H2 o (.lst [V.int n])) tp (.tup [V.str "x", .ref o])) o = some (.lst [.int n]) := same_new' htp _ _ upd_same
    have et : (upd (upd H2 o (.lst [V.int n])) tp (.tup [V.str "x", .ref o])) tp = some (.tup [.str "x", .ref o]) := upd_same
    generalize (upd (upd H2 o (.lst [V.int n])) tp (.tup [V.str "x", .ref o])) = H3 at eo et
    refine fun dp hdp => ⟨upd_same, [(.inr "a", .int 1)], rfl, by decide, ?_⟩
    have ed : (upd (upd H3 dp (.dK [])) dp (.dK (mergeK [] [((.inr "a" : Key), V.int 1)]))) dp = some (.dK [(.inr "a", .int 1)]) := upd_same
    have s4 : Same H3 (upd (upd H3 dp (.dK [])) dp (.dK (mergeK [] [((.inr "a" : Key), V.int 1)]))) := by
      rw [upd_upd]
      exact same_new' hdp
    generalize (upd (upd H3 dp (.dK [])) dp (.dK (mergeK [] [((.inr "a" : Key), V.int 1)]))) = H4 at ed s4
    have eo := s4 _ _ eo
    have et := s4 _ _ et
    refine ⟨sz1 (by show 6 ≤ 1000; decide), fun L hL => ?_⟩
    have s5 : Same H4 (upd H4 L (.lst [V.non, .int n, .str (Txt.mul "ab" r), .ref tp, .ref dp, .bl true])) := same_new' hL
    have eL : (upd H4 L (.lst [V.non, .int n, .str (Txt.mul "ab" r), .ref tp, .ref dp, .bl true])) L = some (.lst [V.non, .int n, .str (Txt.mul "ab" r), .ref tp, .ref dp, .bl true]) := upd_same
    generalize (upd H4 L (.lst [V.non, .int n, .str (Txt.mul "ab" r), .ref tp, .ref dp, .bl true])) = H5 at s5 eL
    have eo := s5 _ _ eo
    have et := s5 _ _ et
    have ed := s5 _ _ ed
    clear s4 s5
    have vals : ∀ y ∈ [V.non, .int n, .str (Txt.mul "ab" r), .ref tp, .ref dp, .bl true], YOk y H5 := by
      intro y hy
      simp only [List.mem_cons, List.not_mem_nil, or_false] at hy
      rcases hy with rfl | rfl | rfl | rfl | rfl | rfl
      · exact .inl ⟨_, .non, (Bnd.non (k := 0) (b := 0)).nice (by decide) (by decide)⟩
      · exact .inl ⟨_, .int n, Nice.int n38⟩
      · exact .inl ⟨_, .str _, mul_nice r0 r1⟩
      · refine .inl ⟨.tuple [.str "x", .list [.int n]], .tup et (.cons (.str _) (.cons (.lst eo (.cons (.int n) .nil)) .nil)), ?_⟩
        refine Bnd.nice (k := 2) (b := 100) (Bnd.tuple (k := 1) (b := 1) (n := 2) (fun d hd => ?_) (Nat.le_refl _) (by decide)) (by decide) (by decide)
        simp only [List.mem_cons, List.not_mem_nil, or_false] at hd
        rcases hd with rfl | rfl
        · exact ⟨by decide +kernel, by decide +kernel, by decide +kernel⟩
        · refine Bnd.list (k := 0) (b := 0) (n := 1) (fun d hd => ?_) (Nat.le_refl _) (by decide)
          rw [List.mem_singleton.mp hd]
          exact .int n38
      · exact .inr ⟨dp, "a", 1, rfl, ed, shows_dict⟩
      · exact .inl ⟨_, .bl true, (Bnd.bl (k := 0) (b := 0) true).nice (by decide) (by decide)⟩
    generalize [V.non, .int n, .str (Txt.mul "ab" r), .ref tp, .ref dp, .bl true] = ys at vals eL
    refine ⟨L, rfl, ⟨ys, .inl (.inl eL)⟩, ?_⟩
    refine for_list (K := K) (a := L) (xs := ys) (fun i σ H' => Same H5 H' ∧ ∃ z3 : Option V, σ = [some (.ref a), some (.ref g), some (.int n), z3, none, none, none, none, none]) ⟨Same.refl _, none, rfl⟩ (fun i σ H' _ e => .inl (.inl (e.1 _ _ eL))) ?_ ?_
    · rintro i y σ H6 hi ⟨s6, z3, rfl⟩
      have yo := (vals y (List.mem_of_getElem? hi)).to s6
      refine ⟨_, rfl, y, rfl, fun x H7 s7 ml => ⟨_, rfl, x, y, rfl, ml, yo.to s7, fun H8 s8 => ⟨true, rfl, iteF ?_⟩⟩⟩
      have yo := (yo.to s7).to s8
      have s8 := s6.trans (s7.trans s8)
      refine ⟨_, rfl, y, rfl, fun x H9 s9 ml => ⟨_, rfl, x, y, rfl, ml, yo.to s9, fun HA sA => ⟨true, rfl, iteF ?_⟩⟩⟩
      exact ⟨s8.trans (s9.trans sA), _, rfl⟩
    rintro σ H6 ⟨s6, z3, rfl⟩
    have yn : ∀ H, YOk .non H := fun H => .inl ⟨_, .non, (Bnd.non (k := 0) (b := 0)).nice (by decide) (by decide)⟩
    refine ⟨rfl, fun x H7 s7 ml => ⟨x, .non, rfl, ml, yn _, fun H8 s8 => ⟨true, rfl, iteF ?_⟩⟩⟩
    -- the very list is kept
    refine ⟨_, rfl, sz1 (by show 1 ≤ 1000; decide), fun od hod => ?_⟩
    refine ⟨_, rfl, .ref od, rfl, fun x H9 s9 ml => ?_⟩
    obtain ⟨p, xs, rfl, hp, hm⟩ := ml
    have eod : H9 od = some (.lst [V.int n]) := s9 _ _ upd_same
    refine ⟨_, rfl, .inl ⟨rfl, _, .inl (.inl eod)⟩, od, _, _, rfl, rfl, eod, by show 1 < sizeLine; rw [sizeLine_eq]; decide, ?_⟩
    have npo : p ≠ od := fun e => by
      rw [e, eod] at hp
      have e2 : [V.int n] = xs := by cases hp; rfl
      have := hm.len
      rw [← e2] at this
      exact absurd this (by show ¬ 1 = 17; decide)
    have hp := hp
    have hm := Hw.MXs.upd (o := .lst ([V.int n] ++ [.int 1])) eod hm
    have hp2 : (upd H9 od (.lst ([V.int n] ++ [.int 1]))) p = some (.lst xs) := by rw [upd_ne npo]; exact hp
    have eod2 : (upd H9 od (.lst ([V.int n] ++ [.int 1]))) od = some (.lst [.int n, .int 1]) := upd_same
    clear hp eod
    generalize (upd H9 od (.lst ([V.int n] ++ [.int 1]))) = HA at hm hp2 eod2
    have sqp : SqL K HA p xs := .inl (.inl hp2)
    have nd : Nice (.list [.int n, .int 1]) := by
      refine Bnd.nice (k := 1) (b := 2) (Bnd.list (k := 0) (b := 0) (n := 2) (fun d hd => ?_) (Nat.le_refl _) (by decide)) (by decide) (by decide)
      simp only [List.mem_cons, List.not_mem_nil, or_false] at hd
      rcases hd with rfl | rfl
      · exact .int n38
      · exact .int (by decide)
    refine ⟨_, rfl, p, rfl, ⟨_, sqp⟩, fun D hD => ?_⟩
    refine lc_list (K := K) (a := p) (xs := xs) (fun i H' => Same HA H' ∧ H' D = some (.lst [])) ⟨same_new' hD, upd_same⟩ (fun i H' _ e => e.1.seq sqp) ?_ ?_
    · rintro i x HB hi ⟨sB, eB⟩
      obtain ⟨C, hC, a2, d2, rfl, ha2, hd2⟩ := hm.get i x hi
      have xc := T.xcs i C (T.ci_cl hC)
      refine ⟨rfl, _, rfl, a2, C, d2, _, .ref od, rfl, xc.fld, xc.no, sB _ _ ha2, sB _ _ hd2, rfl, _, rfl, sz1 (by show 2 ≤ 1000; decide), fun z hz => ?_⟩
      have sz := same_new' (o := .lst [V.int n, .int 1]) hz
      refine ⟨.list [.int n, .int 1], .list [.int n, .int 1], .lst (sz _ _ (sB _ _ eod2)) (.cons (.int n) (.cons (.int 1) .nil)), .lst upd_same (.cons (.int n) (.cons (.int 1) .nil)), nd.shaped, nd.shaped, _, rfl, ?_⟩
      rw [nd.refl]
      exact iteF ⟨sB.trans sz, sz _ _ eB⟩
    rintro HB ⟨sB, eB⟩
    refine ⟨Nat.zero_le _, fun E1 hE1 => ⟨.list [], .list [], .lst (same_new' hE1 _ _ eB) .nil, .lst upd_same .nil, shaped_nil, shaped_nil, _, rfl, ?_⟩⟩
    rw [eqv_nil]
    refine iteF ?_
    generalize (upd HB E1 (.lst [])) = HC
    -- the two without a field
    refine fun a1 h1 a2 h2 => ⟨sz1 (by show 2 ≤ 1000; decide), fun L2 hL2 => ?_⟩
    have t2 := same_new' (o := exo a2 T.c_NothingToRedo none) h2
    have t3 := same_new' (o := .lst [V.ref a1, .ref a2]) hL2
    have f1 := t3 _ _ (t2 _ _ (show (upd HC a1 (exo a1 T.c_NothingToUndo none)) a1 = some (exo a1 T.c_NothingToUndo none) from upd_same))
    have f2 := t3 _ _ (show (upd (upd HC a1 (exo a1 T.c_NothingToUndo none)) a2 (exo a2 T.c_NothingToRedo none)) a2 = some (exo a2 T.c_NothingToRedo none) from upd_same)
    have f3 : (upd (upd (upd HC a1 (exo a1 T.c_NothingToUndo none)) a2 (exo a2 T.c_NothingToRedo none)) L2 (.lst [V.ref a1, .ref a2])) L2 = some (.lst [V.ref a1, .ref a2]) := upd_same
    clear t2 t3
    generalize (upd (upd (upd HC a1 (exo a1 T.c_NothingToUndo none)) a2 (exo a2 T.c_NothingToRedo none)) L2 (.lst [V.ref a1, .ref a2])) = HD at f1 f2 f3
    have sqL : SqL K HD L2 [V.ref a1, .ref a2] := .inl (.inl f3)
    have errs : ∀ (i : Nat) (x : V), [V.ref a1, .ref a2][i]? = some x → ∃ a C, x = .ref a ∧ T.cl[17 + i]? = some C ∧ HD a = some (exo a C none) := fun i x h => match i, h with
      | 0, h => ⟨a1, T.c_NothingToUndo, (Option.some.inj h).symm, rfl, f1⟩
      | 1, h => ⟨a2, T.c_NothingToRedo, (Option.some.inj h).symm, rfl, f2⟩
      | n + 2, h => by simp at h
    refine ⟨L2, _, rfl, sqL, ?_⟩
    refine for_it walk_enum (fun i σ H' => Same HD H' ∧ ∃ z6 z7 : Option V, ∃ w3 w4 w5 : Option V, σ = [some (.ref a), some (.ref g), some (.int n), w3, w4, w5, z6, z7, none]) ⟨Same.refl _, _, _, _, _, _, rfl⟩ (fun i σ H' _ e => e.1.seq sqL) ?_ ?_
    · rintro i x σ H2 H3 hi ⟨s2, z6, z7, w3, w4, w5, rfl⟩ ⟨T', x1, x2, rfl, hT, rfl, g1, g2⟩
      cases g1
      obtain ⟨b, C, rfl, hcl, hb⟩ := errs i x2 g2
      have xc := T.xcs _ C hcl
      have mem := List.mem_of_getElem? hcl
      refine ⟨T', [.int i, .ref b], rfl, .inl (.inl upd_same), rfl, _, _, rfl, _, _, rfl, rfl, ?_⟩
      have s3 : Same HD (upd H2 T' (.tup [.int i, .ref b])) := s2.trans (same_new' hT)
      generalize (upd H2 T' (.tup [V.int i, .ref b])) = H3 at s3
      have sx : SX b C none H3 := ⟨s3 _ _ hb, fun e he => nomatch he⟩
      refine ⟨_, rfl, b, C, none, .ref T.c_ClaimError, .ref T.c_ClaimError, true, rfl, .own _, xc, sx.1, sx.2, T.kitC C mem, true, rfl, iteF ?_⟩
      refine ⟨_, rfl, b, C, none, .ty "ValueError", .type "ValueError", true, rfl, .ty _, xc, sx.1, sx.2, T.kitV C mem, true, rfl, iteF ?_⟩
      refine ⟨_, rfl, b, C, none, 17 + i, rfl, hcl, xc, sx, fun k Hk ek dk => ?_⟩
      refine ⟨19, rfl, by decide, by decide, fun D hD => ?_⟩
      refine lc_range (lo := 0) (n := 19) (fun j H' => Same Hk H' ∧ H' D = some (.lst ((List.range j).map fun j : Nat => V.bl (decide (V.int (0 + (j : Int)) = V.int (17 + (i : Int))))))) ⟨same_new' hD, upd_same⟩ ?_ ?_
      · rintro j H4 hj ⟨s4, e4⟩
        refine ⟨rfl, yes_if ?_⟩
        exact ⟨_, rfl, _, rfl, _, _, rfl, rfl, rfl, lcS (f := fun j => V.bl (decide (V.int (0 + (j : Int)) = V.int (17 + (i : Int))))) hD s4 e4 (by omega)⟩
      · rintro H4 ⟨s4, e4⟩
        have ef : (fun j : Nat => decide (V.int (0 + (j : Int)) = V.int (17 + (i : Int)))) = fun j => decide (17 + i = j) := by
          funext j
          rw [vi]
          exact decide_eq_decide.mpr (by omega)
        have n1 := bools_nice (fun j => decide (17 + i = j)) 19 (by decide)
        have d2 : Dt H4 (.ref D) (.list ((List.range 19).map fun j => PyData.bool (decide (17 + i = j)))) := by
          refine .lst e4 ?_
          have := range_bls (H := H4) (fun j : Nat => decide (V.int (0 + (j : Int)) = V.int (17 + (i : Int)))) 19
          rw [show (fun j : Nat => PyData.bool (decide (17 + i = j))) = fun j => PyData.bool ((fun j : Nat => decide (V.int (0 + (j : Int)) = V.int (17 + (i : Int)))) j) by rw [ef]]
          exact this
        refine ⟨_, _, dk.to s4, d2, n1.shaped, n1.shaped, _, rfl, ?_⟩
        rw [n1.refl]
        exact iteF ⟨(s3.trans ek).trans s4, _, _, _, _, _, rfl⟩
    · rintro σ H2 ⟨s2, z6, z7, w3, w4, w5, rfl⟩
      exact q H2
end

end K05

set_option Elab.async false
set_option linter.all false
set_option maxRecDepth 100000
set_option maxHeartbeats 0
/-! ### the end -/
namespace K05E
open PySem PySem.Spec PyProof.Rows L2 Hw K05
def d_law_hash : He.DefD := ⟨("_law_hash", none), "_law_hash", "_law_hash", defArgs s_law_hash, defBody s_law_hash, defScope s_law_hash, [], []⟩
def d_law_random : He.DefD := ⟨("_law_random", none), "_law_random", "_law_random", defArgs s_law_random, defBody s_law_random, defScope s_law_random, [], []⟩
def d_law_cell : He.DefD := ⟨("_law_cell", none), "_law_cell", "_law_cell", defArgs s_law_cell, defBody s_law_cell, defScope s_law_cell, [], []⟩
def d_law_generator : He.DefD := ⟨("_law_generator", none), "_law_generator", "_law_generator", defArgs s_law_generator, defBody s_law_generator, defScope s_law_generator, [], []⟩
def d_law_made : He.DefD := ⟨("_law_made", none), "_law_made", "_law_made", defArgs s_law_made, defBody s_law_made, defScope s_law_made, [], []⟩
def d_law_by_name : He.DefD := ⟨("_law_by_name", none), "_law_by_name", "_law_by_name", defArgs s_law_by_name, defBody s_law_by_name, defScope s_law_by_name, [], []⟩
def d_law_empty : He.DefD := ⟨("_law_empty", none), "_law_empty", "_law_empty", defArgs s_law_empty, defBody s_law_empty, defScope s_law_empty, [], []⟩
def d_law_kinds : He.DefD := ⟨("_law_kinds", none), "_law_kinds", "_law_kinds", defArgs s_law_kinds, defBody s_law_kinds, defScope s_law_kinds, [], []⟩
def d_law_row_right : He.DefD := ⟨("_law_row_right", none), "_law_row_right", "_law_row_right", defArgs s_law_row_right, defBody s_law_row_right, defScope s_law_row_right, [], []⟩
def d_law : He.DefD := ⟨("law", none), "law", "law", defArgs s_law, defBody s_law, defScope s_law, [], []⟩
def di_InvalidNumber : He.DefD := ⟨("InvalidNumber", some "__init__"), "__init__", "InvalidNumber.__init__", defArgs s_init_InvalidNumber, defBody s_init_InvalidNumber, defScope s_init_InvalidNumber, [.non], []⟩
def di_InvalidName : He.DefD := ⟨("InvalidName", some "__init__"), "__init__", "InvalidName.__init__", defArgs s_init_InvalidName, defBody s_init_InvalidName, defScope s_init_InvalidName, [.non], []⟩
def di_InvalidWidth : He.DefD := ⟨("InvalidWidth", some "__init__"), "__init__", "InvalidWidth.__init__", defArgs s_init_InvalidWidth, defBody s_init_InvalidWidth, defScope s_init_InvalidWidth, [.non], []⟩
def di_InvalidWord : He.DefD := ⟨("InvalidWord", some "__init__"), "__init__", "InvalidWord.__init__", defArgs s_init_InvalidWord, defBody s_init_InvalidWord, defScope s_init_InvalidWord, [.non], []⟩
def di_InvalidExpression : He.DefD := ⟨("InvalidExpression", some "__init__"), "__init__", "InvalidExpression.__init__", defArgs s_init_InvalidExpression, defBody s_init_InvalidExpression, defScope s_init_InvalidExpression, [.non], []⟩
def di_InvalidClaim : He.DefD := ⟨("InvalidClaim", some "__init__"), "__init__", "InvalidClaim.__init__", defArgs s_init_InvalidClaim, defBody s_init_InvalidClaim, defScope s_init_InvalidClaim, [.non], []⟩
def di_InvalidClaims : He.DefD := ⟨("InvalidClaims", some "__init__"), "__init__", "InvalidClaims.__init__", defArgs s_init_InvalidClaims, defBody s_init_InvalidClaims, defScope s_init_InvalidClaims, [.non], []⟩
def di_InvalidFilling : He.DefD := ⟨("InvalidFilling", some "__init__"), "__init__", "InvalidFilling.__init__", defArgs s_init_InvalidFilling, defBody s_init_InvalidFilling, defScope s_init_InvalidFilling, [.non], []⟩
def di_InvalidTable : He.DefD := ⟨("InvalidTable", some "__init__"), "__init__", "InvalidTable.__init__", defArgs s_init_InvalidTable, defBody s_init_InvalidTable, defScope s_init_InvalidTable, [.non], []⟩
def di_InvalidNames : He.DefD := ⟨("InvalidNames", some "__init__"), "__init__", "InvalidNames.__init__", defArgs s_init_InvalidNames, defBody s_init_InvalidNames, defScope s_init_InvalidNames, [.non], []⟩
def di_InvalidWidths : He.DefD := ⟨("InvalidWidths", some "__init__"), "__init__", "InvalidWidths.__init__", defArgs s_init_InvalidWidths, defBody s_init_InvalidWidths, defScope s_init_InvalidWidths, [.non], []⟩
def di_InvalidPaper : He.DefD := ⟨("InvalidPaper", some "__init__"), "__init__", "InvalidPaper.__init__", defArgs s_init_InvalidPaper, defBody s_init_InvalidPaper, defScope s_init_InvalidPaper, [.non], []⟩
def di_InvalidMachine : He.DefD := ⟨("InvalidMachine", some "__init__"), "__init__", "InvalidMachine.__init__", defArgs s_init_InvalidMachine, defBody s_init_InvalidMachine, defScope s_init_InvalidMachine, [.non], []⟩
def di_InvalidText : He.DefD := ⟨("InvalidText", some "__init__"), "__init__", "InvalidText.__init__", defArgs s_init_InvalidText, defBody s_init_InvalidText, defScope s_init_InvalidText, [.non], []⟩
def di_InvalidDeed : He.DefD := ⟨("InvalidDeed", some "__init__"), "__init__", "InvalidDeed.__init__", defArgs s_init_InvalidDeed, defBody s_init_InvalidDeed, defScope s_init_InvalidDeed, [.non], []⟩
def di_Unlike : He.DefD := ⟨("Unlike", some "__init__"), "__init__", "Unlike.__init__", defArgs s_init_Unlike, defBody s_init_Unlike, defScope s_init_Unlike, [.non], []⟩
def di_TooMany : He.DefD := ⟨("TooMany", some "__init__"), "__init__", "TooMany.__init__", defArgs s_init_TooMany, defBody s_init_TooMany, defScope s_init_TooMany, [.non], []⟩
def fn : List He.DefD := [d_law_hash, d_law_random, d_law_cell, d_law_generator, d_law_made, d_law_by_name, d_law_empty, d_law_kinds, d_law_row_right, d_law] ++ [di_InvalidNumber, di_InvalidName, di_InvalidWidth, di_InvalidWord, di_InvalidExpression, di_InvalidClaim, di_InvalidClaims, di_InvalidFilling, di_InvalidTable, di_InvalidNames, di_InvalidWidths, di_InvalidPaper, di_InvalidMachine, di_InvalidText, di_InvalidDeed, di_Unlike, di_TooMany]
def fa0 : List He.Fa := [.glo "_law_hash", .glo "_law_random", .glo "_law_cell", .glo "_law_generator", .glo "_law_made", .glo "_law_by_name", .glo "_law_empty", .glo "_law_kinds", .glo "_law_row_right", .glo "law", .glo "InvalidNumber", .glo "InvalidName", .glo "InvalidWidth", .glo "InvalidWord", .glo "InvalidExpression", .glo "InvalidClaim", .glo "InvalidClaims", .glo "InvalidFilling", .glo "InvalidTable", .glo "InvalidNames"]
def fa1 : List He.Fa := [.glo "InvalidWidths", .glo "InvalidPaper", .glo "InvalidMachine", .glo "InvalidText", .glo "InvalidDeed", .glo "Unlike", .glo "TooMany", .glo "NothingToUndo", .glo "NothingToRedo", .glo "ClaimError", .free "ValueError", .free "enumerate", .free "int", .free "isinstance", .free "len", .free "max", .free "range", .free "repr", .free "sum", .exc "NothingToUndo"]
def fa2 : List He.Fa := [.exc "NothingToRedo"]
def fa : List He.Fa := fa0 ++ fa1 ++ fa2
def inis : List Str := ["InvalidNumber", "InvalidName", "InvalidWidth", "InvalidWord", "InvalidExpression", "InvalidClaim", "InvalidClaims", "InvalidFilling", "InvalidTable", "InvalidNames", "InvalidWidths", "InvalidPaper", "InvalidMachine", "InvalidText", "InvalidDeed", "Unlike", "TooMany"]
def nons : List Str := ["NothingToUndo", "NothingToRedo"]
def names : List Str := inis ++ nons
def iniC (K : PySem.W.Frag) (x : Str) : Bool := xcB K (He.ga K x) && (He.eqO (PySem.W.findIn K (.ref (He.ga K x)) "__init__") (some (some (.ref (He.ma K (He.ga K x) "__init__")))) && decide (PySem.W.typeIn K (.ref (He.ma K (He.ga K x) "__init__")) = some (.type "function")))
def kitI (K : PySem.W.Frag) : Bool := (List.range 19).all fun i => (List.range 19).all fun j => decide (PySem.W.kitOne K (.ref (He.ga K (names.getD i ""))) (.ref (He.ga K (names.getD j ""))) = some (decide (i = j)))
def kitU (K : PySem.W.Frag) : Bool := names.all fun x => decide (PySem.W.kitOne K (.ref (He.ga K x)) (.ref (He.ga K "ClaimError")) = some true) && decide (PySem.W.kitOne K (.ref (He.ga K x)) (.type "ValueError") = some true)
def chk (K : PySem.W.Frag) : Bool := inis.all (iniC K) && ((nons.all fun x => xcB K (He.ga K x)) && (kitI K && kitU K))
theorem name_at {K : PySem.W.Frag} {i : Nat} {x : Addr} (h : (names.map (He.ga K))[i]? = some x) : i < 19 ∧ x = He.ga K (names.getD i "") := by
  rw [List.getElem?_map] at h
  obtain ⟨n, hn, rfl⟩ := Option.map_eq_some_iff.mp h
  refine ⟨(List.getElem?_eq_some_iff.mp hn).1, ?_⟩
  rw [List.getD_eq_getElem?_getD, hn]
  rfl
theorem kit_at {K : PySem.W.Frag} (h : kitI K = true) (i j : Nat) (x y : Addr) (hx : (names.map (He.ga K))[i]? = some x) (hy : (names.map (He.ga K))[j]? = some y) : PySem.W.kitOne K (.ref x) (.ref y) = some (decide (i = j)) := by
  obtain ⟨hi, rfl⟩ := name_at hx
  obtain ⟨hj, rfl⟩ := name_at hy
  exact of_decide_eq_true (List.all_eq_true.mp (List.all_eq_true.mp h i (List.mem_range.mpr hi)) j (List.mem_range.mpr hj))
theorem kit_up {K : PySem.W.Frag} (h : kitU K = true) (x : Addr) (hx : x ∈ names.map (He.ga K)) : PySem.W.kitOne K (.ref x) (.ref (He.ga K "ClaimError")) = some true ∧ PySem.W.kitOne K (.ref x) (.type "ValueError") = some true := by
  obtain ⟨n, hn, rfl⟩ := List.mem_map.mp hx
  obtain ⟨a, b⟩ := Bool.and_eq_true_iff.mp (List.all_eq_true.mp h n hn)
  exact ⟨of_decide_eq_true a, of_decide_eq_true b⟩
abbrev R : PySem.W.OpenRow := PySem.W.OpenLaw.row PySem.Challenge.rw_howeverwide_k05_errors_by_their_classes
abbrev hk : PySem.W.Hook := hookX 6 fa fn chk
def ob (s : PySem.W.SharedT) : He.AlD := obsXG 6 fa fn chk (HandSHeadRun.getT s)
theorem ob_eq (s : PySem.W.SharedT) : ob s = hk.obs s.abs := obsXG_eq (HandSHeadRun.getT_eq s)
def loose0 : List PySem.Str := ["ClaimError", "InvalidNumber", "InvalidName", "InvalidWidth", "InvalidWord", "InvalidExpression", "InvalidClaim", "InvalidClaims", "InvalidFilling", "InvalidTable", "InvalidNames", "InvalidWidths", "InvalidPaper", "InvalidMachine", "InvalidText", "InvalidDeed", "Unlike", "TooMany", "NothingToUndo", "NothingToRedo"]
def loose1 : List PySem.Str := ["_law_hash", "_law_random", "_law_cell", "_law_generator", "_law_made", "_law_by_name", "_law_empty", "_law_kinds", "_law_row_right"]
def loose : List PySem.Str := loose0 ++ loose1
theorem run (w : World) : HandSHeadRun.RunEq R (PySem.W.view R.prog [31]) hk ob 6000 loose w := by
  intro os
  kernel_rfl
theorem facts {P : Program} {w : World} {K : PySem.W.Frag} {h : Heap} {mg : Str → Option Value} {f : Addr} (X : K.In h) (G : h.Ns mainGlobals mg) (hfa : mg ("law" : Str) = some (.ref f)) (cx : SaysX fa fn chk K) :
    ∃ fd : FuncData, (∀ (s : Shared) (v : Value), BindsTo s fd ⟨[v], []⟩ [("_law_script", v)]) ∧ ∀ base : Heap, K.In base → base.Ns mainGlobals mg → FnG P w K mg base CX0 5 f fd ["_law_script"] (spLaw K) := by
  obtain ⟨c, ck⟩ := cx.says
  obtain ⟨ck1, ck⟩ := He.ba ck
  obtain ⟨ck2, ck⟩ := He.ba ck
  obtain ⟨ck3, ck4⟩ := He.ba ck
  have ini : ∀ x ∈ inis, XcF K (He.ga K x) ∧ PySem.W.findIn K (.ref (He.ga K x)) "__init__" = some (some (.ref (He.ma K (He.ga K x) "__init__"))) ∧ PySem.W.typeIn K (.ref (He.ma K (He.ga K x) "__init__")) = some (.type "function") := fun x hx => by
    obtain ⟨a, b⟩ := He.ba (List.all_eq_true.mp ck1 x hx)
    obtain ⟨b, d⟩ := He.ba b
    exact ⟨xcB_ok a, He.eqO_ok b, of_decide_eq_true d⟩
  have non : ∀ x ∈ nons, XcF K (He.ga K x) := fun x hx => xcB_ok (List.all_eq_true.mp ck2 x hx)
  obtain ⟨e_law_hash, F_law_hash⟩ := c.def_ 0 (d := d_law_hash) rfl
  obtain ⟨e_law_random, F_law_random⟩ := c.def_ 1 (d := d_law_random) rfl
  obtain ⟨e_law_cell, F_law_cell⟩ := c.def_ 2 (d := d_law_cell) rfl
  obtain ⟨e_law_generator, F_law_generator⟩ := c.def_ 3 (d := d_law_generator) rfl
  obtain ⟨e_law_made, F_law_made⟩ := c.def_ 4 (d := d_law_made) rfl
  obtain ⟨e_law_by_name, F_law_by_name⟩ := c.def_ 5 (d := d_law_by_name) rfl
  obtain ⟨e_law_empty, F_law_empty⟩ := c.def_ 6 (d := d_law_empty) rfl
  obtain ⟨e_law_kinds, F_law_kinds⟩ := c.def_ 7 (d := d_law_kinds) rfl
  obtain ⟨e_law_row_right, F_law_row_right⟩ := c.def_ 8 (d := d_law_row_right) rfl
  obtain ⟨e_law, F_law⟩ := c.def_ 9 (d := d_law) rfl
  obtain ⟨ei_InvalidNumber, Fi_InvalidNumber⟩ := c.def_ 10 (d := di_InvalidNumber) rfl
  obtain ⟨ei_InvalidName, Fi_InvalidName⟩ := c.def_ 11 (d := di_InvalidName) rfl
  obtain ⟨ei_InvalidWidth, Fi_InvalidWidth⟩ := c.def_ 12 (d := di_InvalidWidth) rfl
  obtain ⟨ei_InvalidWord, Fi_InvalidWord⟩ := c.def_ 13 (d := di_InvalidWord) rfl
  obtain ⟨ei_InvalidExpression, Fi_InvalidExpression⟩ := c.def_ 14 (d := di_InvalidExpression) rfl
  obtain ⟨ei_InvalidClaim, Fi_InvalidClaim⟩ := c.def_ 15 (d := di_InvalidClaim) rfl
  obtain ⟨ei_InvalidClaims, Fi_InvalidClaims⟩ := c.def_ 16 (d := di_InvalidClaims) rfl
  obtain ⟨ei_InvalidFilling, Fi_InvalidFilling⟩ := c.def_ 17 (d := di_InvalidFilling) rfl
  obtain ⟨ei_InvalidTable, Fi_InvalidTable⟩ := c.def_ 18 (d := di_InvalidTable) rfl
  obtain ⟨ei_InvalidNames, Fi_InvalidNames⟩ := c.def_ 19 (d := di_InvalidNames) rfl
  obtain ⟨ei_InvalidWidths, Fi_InvalidWidths⟩ := c.def_ 20 (d := di_InvalidWidths) rfl
  obtain ⟨ei_InvalidPaper, Fi_InvalidPaper⟩ := c.def_ 21 (d := di_InvalidPaper) rfl
  obtain ⟨ei_InvalidMachine, Fi_InvalidMachine⟩ := c.def_ 22 (d := di_InvalidMachine) rfl
  obtain ⟨ei_InvalidText, Fi_InvalidText⟩ := c.def_ 23 (d := di_InvalidText) rfl
  obtain ⟨ei_InvalidDeed, Fi_InvalidDeed⟩ := c.def_ 24 (d := di_InvalidDeed) rfl
  obtain ⟨ei_Unlike, Fi_Unlike⟩ := c.def_ 25 (d := di_Unlike) rfl
  obtain ⟨ei_TooMany, Fi_TooMany⟩ := c.def_ 26 (d := di_TooMany) rfl
  have g_law_hash := He.glo_ok X G (c.fact 0 (f := .glo "_law_hash") rfl)
  have g_law_random := He.glo_ok X G (c.fact 1 (f := .glo "_law_random") rfl)
  have g_law_cell := He.glo_ok X G (c.fact 2 (f := .glo "_law_cell") rfl)
  have g_law_generator := He.glo_ok X G (c.fact 3 (f := .glo "_law_generator") rfl)
  have g_law_made := He.glo_ok X G (c.fact 4 (f := .glo "_law_made") rfl)
  have g_law_by_name := He.glo_ok X G (c.fact 5 (f := .glo "_law_by_name") rfl)
  have g_law_empty := He.glo_ok X G (c.fact 6 (f := .glo "_law_empty") rfl)
  have g_law_kinds := He.glo_ok X G (c.fact 7 (f := .glo "_law_kinds") rfl)
  have g_law_row_right := He.glo_ok X G (c.fact 8 (f := .glo "_law_row_right") rfl)
  have g_law := He.glo_ok X G (c.fact 9 (f := .glo "law") rfl)
  have g_InvalidNumber := He.glo_ok X G (c.fact 10 (f := .glo "InvalidNumber") rfl)
  have g_InvalidName := He.glo_ok X G (c.fact 11 (f := .glo "InvalidName") rfl)
  have g_InvalidWidth := He.glo_ok X G (c.fact 12 (f := .glo "InvalidWidth") rfl)
  have g_InvalidWord := He.glo_ok X G (c.fact 13 (f := .glo "InvalidWord") rfl)
  have g_InvalidExpression := He.glo_ok X G (c.fact 14 (f := .glo "InvalidExpression") rfl)
  have g_InvalidClaim := He.glo_ok X G (c.fact 15 (f := .glo "InvalidClaim") rfl)
  have g_InvalidClaims := He.glo_ok X G (c.fact 16 (f := .glo "InvalidClaims") rfl)
  have g_InvalidFilling := He.glo_ok X G (c.fact 17 (f := .glo "InvalidFilling") rfl)
  have g_InvalidTable := He.glo_ok X G (c.fact 18 (f := .glo "InvalidTable") rfl)
  have g_InvalidNames := He.glo_ok X G (c.fact 19 (f := .glo "InvalidNames") rfl)
  have g_InvalidWidths := He.glo_ok X G (c.fact 20 (f := .glo "InvalidWidths") rfl)
  have g_InvalidPaper := He.glo_ok X G (c.fact 21 (f := .glo "InvalidPaper") rfl)
  have g_InvalidMachine := He.glo_ok X G (c.fact 22 (f := .glo "InvalidMachine") rfl)
  have g_InvalidText := He.glo_ok X G (c.fact 23 (f := .glo "InvalidText") rfl)
  have g_InvalidDeed := He.glo_ok X G (c.fact 24 (f := .glo "InvalidDeed") rfl)
  have g_Unlike := He.glo_ok X G (c.fact 25 (f := .glo "Unlike") rfl)
  have g_TooMany := He.glo_ok X G (c.fact 26 (f := .glo "TooMany") rfl)
  have g_NothingToUndo := He.glo_ok X G (c.fact 27 (f := .glo "NothingToUndo") rfl)
  have g_NothingToRedo := He.glo_ok X G (c.fact 28 (f := .glo "NothingToRedo") rfl)
  have g_ClaimError := He.glo_ok X G (c.fact 29 (f := .glo "ClaimError") rfl)
  have e := hfa.symm.trans g_law
  cases e
  let T : Tx K mg := { a_law_hash := _, d_law_hash := e_law_hash, F_law_hash := F_law_hash, g_law_hash := g_law_hash, a_law_random := _, d_law_random := e_law_random, F_law_random := F_law_random, g_law_random := g_law_random, a_law_cell := _, d_law_cell := e_law_cell, F_law_cell := F_law_cell, g_law_cell := g_law_cell, a_law_generator := _, d_law_generator := e_law_generator, F_law_generator := F_law_generator, g_law_generator := g_law_generator, a_law_made := _, d_law_made := e_law_made, F_law_made := F_law_made, g_law_made := g_law_made, a_law_by_name := _, d_law_by_name := e_law_by_name, F_law_by_name := F_law_by_name, g_law_by_name := g_law_by_name, a_law_empty := _, d_law_empty := e_law_empty, F_law_empty := F_law_empty, g_law_empty := g_law_empty, a_law_kinds := _, d_law_kinds := e_law_kinds, F_law_kinds := F_law_kinds, g_law_kinds := g_law_kinds, a_law_row_right := _, d_law_row_right := e_law_row_right, F_law_row_right := F_law_row_right, g_law_row_right := g_law_row_right, a_law := _, d_law := e_law, F_law := F_law, g_law := g_law, z_ValueError := He.free_ok X G (c.fact 30 (f := .free "ValueError") rfl), z_enumerate := He.free_ok X G (c.fact 31 (f := .free "enumerate") rfl), z_int := He.free_ok X G (c.fact 32 (f := .free "int") rfl), z_isinstance := He.free_ok X G (c.fact 33 (f := .free "isinstance") rfl), z_len := He.free_ok X G (c.fact 34 (f := .free "len") rfl), z_max := He.free_ok X G (c.fact 35 (f := .free "max") rfl), z_range := He.free_ok X G (c.fact 36 (f := .free "range") rfl), z_repr := He.free_ok X G (c.fact 37 (f := .free "repr") rfl), z_sum := He.free_ok X G (c.fact 38 (f := .free "sum") rfl), c_ClaimError := He.ga K "ClaimError", k_ClaimError := g_ClaimError, c_InvalidNumber := He.ga K "InvalidNumber", k_InvalidNumber := g_InvalidNumber, c_InvalidName := He.ga K "InvalidName", k_InvalidName := g_InvalidName, c_InvalidWidth := He.ga K "InvalidWidth", k_InvalidWidth := g_InvalidWidth, c_InvalidWord := He.ga K "InvalidWord", k_InvalidWord := g_InvalidWord, c_InvalidExpression := He.ga K "InvalidExpression", k_InvalidExpression := g_InvalidExpression, c_InvalidClaim := He.ga K "InvalidClaim", k_InvalidClaim := g_InvalidClaim, c_InvalidClaims := He.ga K "InvalidClaims", k_InvalidClaims := g_InvalidClaims, c_InvalidFilling := He.ga K "InvalidFilling", k_InvalidFilling := g_InvalidFilling, c_InvalidTable := He.ga K "InvalidTable", k_InvalidTable := g_InvalidTable, c_InvalidNames := He.ga K "InvalidNames", k_InvalidNames := g_InvalidNames, c_InvalidWidths := He.ga K "InvalidWidths", k_InvalidWidths := g_InvalidWidths, c_InvalidPaper := He.ga K "InvalidPaper", k_InvalidPaper := g_InvalidPaper, c_InvalidMachine := He.ga K "InvalidMachine", k_InvalidMachine := g_InvalidMachine, c_InvalidText := He.ga K "InvalidText", k_InvalidText := g_InvalidText, c_InvalidDeed := He.ga K "InvalidDeed", k_InvalidDeed := g_InvalidDeed, c_Unlike := He.ga K "Unlike", k_Unlike := g_Unlike, c_TooMany := He.ga K "TooMany", k_TooMany := g_TooMany, c_NothingToUndo := He.ga K "NothingToUndo", k_NothingToUndo := g_NothingToUndo, c_NothingToRedo := He.ga K "NothingToRedo", k_NothingToRedo := g_NothingToRedo, x_InvalidNumber := (ini "InvalidNumber" (by decide)).1, f_InvalidNumber := He.ma K (He.ga K "InvalidNumber") "__init__", e_InvalidNumber := ei_InvalidNumber, i_InvalidNumber := (ini "InvalidNumber" (by decide)).2.1, t_InvalidNumber := (ini "InvalidNumber" (by decide)).2.2, I_InvalidNumber := Fi_InvalidNumber, x_InvalidName := (ini "InvalidName" (by decide)).1, f_InvalidName := He.ma K (He.ga K "InvalidName") "__init__", e_InvalidName := ei_InvalidName, i_InvalidName := (ini "InvalidName" (by decide)).2.1, t_InvalidName := (ini "InvalidName" (by decide)).2.2, I_InvalidName := Fi_InvalidName, x_InvalidWidth := (ini "InvalidWidth" (by decide)).1, f_InvalidWidth := He.ma K (He.ga K "InvalidWidth") "__init__", e_InvalidWidth := ei_InvalidWidth, i_InvalidWidth := (ini "InvalidWidth" (by decide)).2.1, t_InvalidWidth := (ini "InvalidWidth" (by decide)).2.2, I_InvalidWidth := Fi_InvalidWidth, x_InvalidWord := (ini "InvalidWord" (by decide)).1, f_InvalidWord := He.ma K (He.ga K "InvalidWord") "__init__", e_InvalidWord := ei_InvalidWord, i_InvalidWord := (ini "InvalidWord" (by decide)).2.1, t_InvalidWord := (ini "InvalidWord" (by decide)).2.2, I_InvalidWord := Fi_InvalidWord, x_InvalidExpression := (ini "InvalidExpression" (by decide)).1, f_InvalidExpression := He.ma K (He.ga K "InvalidExpression") "__init__", e_InvalidExpression := ei_InvalidExpression, i_InvalidExpression := (ini "InvalidExpression" (by decide)).2.1, t_InvalidExpression := (ini "InvalidExpression" (by decide)).2.2, I_InvalidExpression := Fi_InvalidExpression, x_InvalidClaim := (ini "InvalidClaim" (by decide)).1, f_InvalidClaim := He.ma K (He.ga K "InvalidClaim") "__init__", e_InvalidClaim := ei_InvalidClaim, i_InvalidClaim := (ini "InvalidClaim" (by decide)).2.1, t_InvalidClaim := (ini "InvalidClaim" (by decide)).2.2, I_InvalidClaim := Fi_InvalidClaim, x_InvalidClaims := (ini "InvalidClaims" (by decide)).1, f_InvalidClaims := He.ma K (He.ga K "InvalidClaims") "__init__", e_InvalidClaims := ei_InvalidClaims, i_InvalidClaims := (ini "InvalidClaims" (by decide)).2.1, t_InvalidClaims := (ini "InvalidClaims" (by decide)).2.2, I_InvalidClaims := Fi_InvalidClaims, x_InvalidFilling := (ini "InvalidFilling" (by decide)).1, f_InvalidFilling := He.ma K (He.ga K "InvalidFilling") "__init__", e_InvalidFilling := ei_InvalidFilling, i_InvalidFilling := (ini "InvalidFilling" (by decide)).2.1, t_InvalidFilling := (ini "InvalidFilling" (by decide)).2.2, I_InvalidFilling := Fi_InvalidFilling, x_InvalidTable := (ini "InvalidTable" (by decide)).1, f_InvalidTable := He.ma K (He.ga K "InvalidTable") "__init__", e_InvalidTable := ei_InvalidTable, i_InvalidTable := (ini "InvalidTable" (by decide)).2.1, t_InvalidTable := (ini "InvalidTable" (by decide)).2.2, I_InvalidTable := Fi_InvalidTable, x_InvalidNames := (ini "InvalidNames" (by decide)).1, f_InvalidNames := He.ma K (He.ga K "InvalidNames") "__init__", e_InvalidNames := ei_InvalidNames, i_InvalidNames := (ini "InvalidNames" (by decide)).2.1, t_InvalidNames := (ini "InvalidNames" (by decide)).2.2, I_InvalidNames := Fi_InvalidNames, x_InvalidWidths := (ini "InvalidWidths" (by decide)).1, f_InvalidWidths := He.ma K (He.ga K "InvalidWidths") "__init__", e_InvalidWidths := ei_InvalidWidths, i_InvalidWidths := (ini "InvalidWidths" (by decide)).2.1, t_InvalidWidths := (ini "InvalidWidths" (by decide)).2.2, I_InvalidWidths := Fi_InvalidWidths, x_InvalidPaper := (ini "InvalidPaper" (by decide)).1, f_InvalidPaper := He.ma K (He.ga K "InvalidPaper") "__init__", e_InvalidPaper := ei_InvalidPaper, i_InvalidPaper := (ini "InvalidPaper" (by decide)).2.1, t_InvalidPaper := (ini "InvalidPaper" (by decide)).2.2, I_InvalidPaper := Fi_InvalidPaper, x_InvalidMachine := (ini "InvalidMachine" (by decide)).1, f_InvalidMachine := He.ma K (He.ga K "InvalidMachine") "__init__", e_InvalidMachine := ei_InvalidMachine, i_InvalidMachine := (ini "InvalidMachine" (by decide)).2.1, t_InvalidMachine := (ini "InvalidMachine" (by decide)).2.2, I_InvalidMachine := Fi_InvalidMachine, x_InvalidText := (ini "InvalidText" (by decide)).1, f_InvalidText := He.ma K (He.ga K "InvalidText") "__init__", e_InvalidText := ei_InvalidText, i_InvalidText := (ini "InvalidText" (by decide)).2.1, t_InvalidText := (ini "InvalidText" (by decide)).2.2, I_InvalidText := Fi_InvalidText, x_InvalidDeed := (ini "InvalidDeed" (by decide)).1, f_InvalidDeed := He.ma K (He.ga K "InvalidDeed") "__init__", e_InvalidDeed := ei_InvalidDeed, i_InvalidDeed := (ini "InvalidDeed" (by decide)).2.1, t_InvalidDeed := (ini "InvalidDeed" (by decide)).2.2, I_InvalidDeed := Fi_InvalidDeed, x_Unlike := (ini "Unlike" (by decide)).1, f_Unlike := He.ma K (He.ga K "Unlike") "__init__", e_Unlike := ei_Unlike, i_Unlike := (ini "Unlike" (by decide)).2.1, t_Unlike := (ini "Unlike" (by decide)).2.2, I_Unlike := Fi_Unlike, x_TooMany := (ini "TooMany" (by decide)).1, f_TooMany := He.ma K (He.ga K "TooMany") "__init__", e_TooMany := ei_TooMany, i_TooMany := (ini "TooMany" (by decide)).2.1, t_TooMany := (ini "TooMany" (by decide)).2.2, I_TooMany := Fi_TooMany, x_NothingToUndo := non "NothingToUndo" (by decide), q_NothingToUndo := (He.exc_ok (c.fact 39 (f := .exc "NothingToUndo") rfl)).1, x_NothingToRedo := non "NothingToRedo" (by decide), q_NothingToRedo := (He.exc_ok (c.fact 40 (f := .exc "NothingToRedo") rfl)).1, kit := fun i j x y hx hy => kit_at ck3 i j x y hx hy, kitC := fun x hx => (kit_up ck4 x hx).1, kitV := fun x hx => (kit_up ck4 x hx).2 }
  have b := FunD.bindsA (ps := ["_law_script"]) F_law fun _ _ _ _ _ _ us hl => match us, hl with | [_], _ => rfl
  exact ⟨e_law, fun s v => b s [v] rfl, fun base _ _ => ok_law T⟩
end K05E
open PySem PySem.W PySem.Calls PyProof.Rows
set_option maxRecDepth 100000 in
set_option maxHeartbeats 0 in
theorem PySem.Challenge.cw_howeverwide_k05_errors_by_their_classes_holds : PySem.Challenge.rw_howeverwide_k05_errors_by_their_classes.Holds := by
  w_on; o_law
  refine HandSHeadRun.head_any (r := OpenLaw.row PySem.Challenge.rw_howeverwide_k05_errors_by_their_classes) (q := view (OpenLaw.row PySem.Challenge.rw_howeverwide_k05_errors_by_their_classes).prog [31]) (H := K05E.hk) (ob := K05E.ob) (M := 6000) (loose := K05E.loose) (d := HandSHeadRun.topDef (OpenLaw.row PySem.Challenge.rw_howeverwide_k05_errors_by_their_classes).prog 31) (kwd := []) K05E.ob_eq
    (by kernel_rfl) (fun s => by kernel_rfl) K05E.run (by kernel_rfl) (by kernel_rfl) (by kernel_rfl) (by rfl) (by first | assumption | decide +kernel) (by decide +kernel) ⟨rfl, rfl, rfl, rfl, rfl, by decide +kernel⟩ ?hw ?hc
  case hw => w_witness2
  case hc =>
    refine Hw.walkG (l := PySem.Challenge.rw_howeverwide_k05_errors_by_their_classes) (n := 63) (k := 5) (x := "_law_script") rfl (by decide) (by kernel_rfl) ⟨rfl, by decide, by decide⟩ ?F
    intro w mg fa h Y G hmg0
    obtain ⟨K, KX, c⟩ := Y
    have hmg : mg ("law" : PySem.Str) = some (.ref fa) := by
      have e : (HandSHeadRun.topDef (OpenLaw.row PySem.Challenge.rw_howeverwide_k05_errors_by_their_classes).prog 31).name = ("law" : PySem.Str) := by kernel_rfl
      rw [← e]
      exact hmg0
    obtain ⟨fd, hb, hF⟩ := K05E.facts (P := (PySem.Challenge.rw_howeverwide_k05_errors_by_their_classes).prog) (w := w) KX G hmg c
    exact ⟨K, fd, K05.spLaw K, KX, hb, fun H a ns hl _ hS => ⟨a, ns, rfl, hl, hS, fun _ => rfl⟩, hF⟩
