import PyProof.Rows.All
import Wide.All
import OpenK.AllK
import Wide.FinOn
import PyProof.ReprRoads
import HandS.Base
import HandS.Call
import HandS.List
import HandS.Comp
import HandS.Ends
import HandS.Words
import HandS.Wide
import HandS.WideBits
import HandS.IsInst
import HandS.Defaults
import HandS.Flow
import HandS.Walk
import HandS.Codes
import HandS.Conv
import HandS.ForMost
import HandS.TupAny
import HandS.TupLe
import PySem.Challenge.RW_howeverwide_k03_whole_bits
import KE.KStateDown
import Lean
import HandS.Head0
import HandS.Head1
import HandS.Head2
import HandS.HeadEnd
import HandS.HeadHook1
import HandS.HeadHook2
set_option Elab.async false
set_option linter.all false
set_option maxRecDepth 100000
set_option maxHeartbeats 4000000
/-! A layer of ours over HandS: defs whose runs know that no repr stands around them (so that repr of lists may be shown), calls by keywords alone, repr of data, powers. -/
namespace Hw
open PySem PySem.Spec PyProof.Rows L2

/-- no repr is under way -/
abbrev Gd (A : Around) : Prop := A.guards = some []

section
variable (P : Program) (w : World) (K : PySem.W.Frag) (mg : Str → Option Value) (base : Heap) (CX : CXT)
/-- a def's promise where no repr is under way -/
structure FnG (k : Nat) (f : Addr) (fd : FuncData) (ps : List Str) (sp : Sp) : Prop where
  arity : ∀ vs H Q E, sp vs H Q E → vs.length = ps.length
  go : ∀ (A : Around) (outer : List Env) (s : Shared) (H : Hp) (args : Args) (us : List Value) (vs : List V) (Q : VK) (E : XK),
    Gd A → Room k A → Env0 P w K mg base A outer s H → BindsTo s fd args (ps.zip us) → Vals vs us → sp vs H Q E → codeAny (model P w) A (.call (.ref f) args) (CR CX outer P w H s Q E) s
end
section
variable {P : Program} {w : World} {K : PySem.W.Frag} {mg : Str → Option Value} {base : Heap} {CX : CXT}
theorem FnG.up {j k : Nat} {f : Addr} {fd : FuncData} {ps : List Str} {sp : Sp} (F : FnG P w K mg base CX j f fd ps sp) (h : j ≤ k) : FnG P w K mg base CX k f fd ps sp :=
  ⟨F.arity, fun A outer s H args us vs Q E g r => F.go A outer s H args us vs Q E g (r.mono h)⟩
theorem FnG.weak {k : Nat} {f : Addr} {fd : FuncData} {ps : List Str} {sp sp' : Sp} (F : FnG P w K mg base CX k f fd ps sp) (h : ∀ vs H Q E, sp' vs H Q E → sp vs H Q E) : FnG P w K mg base CX k f fd ps sp' :=
  ⟨fun vs H Q E q => F.arity vs H Q E (h _ _ _ _ q), fun A outer s H args us vs Q E g r e b v q => F.go A outer s H args us vs Q E g r e b v (h _ _ _ _ q)⟩
theorem FnG.ofOk {k : Nat} {f : Addr} {fd : FuncData} {ps : List Str} {sp : Sp} (F : FnOk P w K mg base CX k f fd ps sp) : FnG P w K mg base CX k f fd ps sp :=
  ⟨F.len, fun A outer s H args us vs Q E _ => F.run A outer s H args us vs Q E⟩

/-- a def of the text without defaults -/
abbrev DefAt (K : PySem.W.Frag) (x : Str) (st : Stmt) (f : Addr) (fd : FuncData) : Prop := FunD K x x (defArgs st) (defBody st) (defScope st) [] [] f fd

/-- the rule of a def's body, where no repr is under way -/
theorem bodyG {x qual : Str} {params : Arguments} {body : List Stmt} {scope : Scope} {dvs : List V} {kws : List (Str × V)} {f : Addr} {fd : FuncData} {N ps : List Str} {k : Nat} {sp : Sp}
    (F : FunD K x qual params body scope dvs kws f fd) (S : FnScope N ps scope) (ar : ∀ vs H Q E, sp vs H Q E → vs.length = ps.length)
    (hb : ∀ (cdv : Value) (A : Around) (outer : List Env) (s : Shared) (H : Hp) (vs : List V) (Q : VK) (E : XK), Gd (A.deeper (envOfC qual scope s.heap.objs.size f cdv)) → Room k (A.deeper (envOfC qual scope s.heap.objs.size f cdv)) → sp vs H Q E →
      ∃ t, PSs (cxOf CX P w K mg base N qual scope f cdv A outer s H E) body t ∧ t { nx := fun _ H' => Q .non H', rt := Q } (start N vs) H) : FnG P w K mg base CX (k + 1) f fd ps sp := by
  refine ⟨ar, ?_⟩
  intro A outer s H args us vs Q E gd room env bind rel want
  obtain ⟨oc, od, dV, kV, doc, pm, an, cdv, ct, osl, rfl, look, codeIs, -, -⟩ := F.ex
  have inK : K.In s.heap := env.mod.kin.keeps fun b o q => (env.bs b o q).1
  have noLim : s.heap.NoLimit := env.mod.nolimit.keeps fun b o q => (env.bs b o q).1
  have kinds : ∀ y ∈ ps.zip us, scope.names.lookup y.1 = some .local ∨ (scope.names.lookup y.1 = some .cell ∧ ((cellsFrom (s.heap.objs.size + 1) scope.names []).lookup y.1).isSome = true) := by
    rintro ⟨n, v⟩ hy
    cases S.par n (List.of_mem_zip hy).1 with
    | inl q => exact Or.inl q
    | inr q => exact Or.inr ⟨q, PySem.W.cellsFrom_some _ _ _ (Or.inl q)⟩
  refine codeAny_call_function room.depth (inK _ _ look) rfl S.co S.gen rfl (PySem.W.codeRec_of inK codeIs) (bind _ _ _ _ ?_)
  refine wpAny_newFunctionEnv_cells S.kind kinds ?_
  rintro env' rfl s1 x1
  refine ⟨noLim.keeps x1.toInCall.keep, codeAny_func ?_⟩
  obtain ⟨t, run, done⟩ := hb cdv A outer s H vs Q E gd (room.deeper _) want
  have I := inv_start (CX := CX) (E := E) S room.hd env (ar _ _ _ _ want) rel x1
  refine wpAny_mono (run.run [] s1 (start N vs) H _ I done) ?_ (fun _ _ q => q)
  intro fl s' after
  cases fl with
  | ret u =>
    obtain ⟨v, σ', H', J, rv, q⟩ := after
    exact ⟨v, H', J.os, J.bare, J.base, J.hok, rv, q⟩
  | next =>
    obtain ⟨σ', H', J, q⟩ := after
    exact ⟨V.non, H', J.os, J.bare, J.base, J.hok, rfl, q⟩
  | brk => exact (after.choose_spec.choose_spec.2 : False).elim
  | cont => exact (after.choose_spec.choose_spec.2 : False).elim
/-- the same for a def that lets nothing out -/
theorem bodyG0 {x : Str} {st : Stmt} {f : Addr} {fd : FuncData} {N ps : List Str} {k : Nat} {sp : Sp}
    (F : DefAt K x st f fd) (S : FnScope N ps (defScope st)) (ar : ∀ vs H Q E, sp vs H Q E → vs.length = ps.length)
    (hb : ∀ (cdv : Value) (A : Around) (outer : List Env) (s : Shared) (H : Hp) (vs : List V) (Q : VK) (E : XK), Gd (A.deeper (envOfC x (defScope st) s.heap.objs.size f cdv)) → Room k (A.deeper (envOfC x (defScope st) s.heap.objs.size f cdv)) → sp vs H Q E →
      ∃ t, PSs (cxOf CX0 P w K mg base N x (defScope st) f cdv A outer s H E).nox (defBody st) t ∧ t { nx := fun _ H' => Q .non H', rt := Q } (start N vs) H) : FnG P w K mg base CX0 (k + 1) f fd ps sp :=
  bodyG F S ar fun cdv A outer s H vs Q E gd room want => by
    obtain ⟨t, a, b⟩ := hb cdv A outer s H vs Q E gd room want
    exact ⟨t, a.nox, b⟩
end

section
variable {X : Cx} {CX : CXT} {k : Nat} {f : Addr} {fd : FuncData} {ps ks : List Str} {sp : Sp} {dvs : List V} {ds : List Value} {E : XK} {x : Str} {p pos : Pos} {e : Expr} {es : List Expr} {kws : List Keyword} {t tk : TA}
theorem runG {pins : List (Addr × Obj)} {σ : L2.St} {H : Hp} {s : Shared} {Q : VK} {us0 : List Value} {kw : List (Str × Value)} {us : List Value} {vs : List V} (F : FnG X.prog X.w X.K X.mg X.base CX k f fd ps sp) (gd : Gd X.A) (hr : Room k X.A) (hx : Passes CX X E)
    (I : Inv X pins σ H s) (hb : BindsTo s fd ⟨us0, kw⟩ (ps.zip us)) (r : Vals vs us) (h : sp vs H Q E) : wpAny (model X.prog X.w) X.A (call (.ref f) us0 kw) (EP X pins σ Q) X.xe s := by
  refine wpAny_call (codeAny_mono (F.go X.A X.stack s H ⟨us0, kw⟩ us vs Q E gd hr I.env0 hb r h) ?_)
  intro r s' q
  match r, q with
  | .error e, q => exact hx pins σ H s e s' I q
  | .ok (.ret u), q => exact I.after q
  | .ok .next, q => exact (show False from q).elim
  | .ok .brk, q => exact (show False from q).elim
  | .ok .cont, q => exact (show False from q).elim
/-- f(e, ..) -/
theorem pe_g (F : FnG X.prog X.w X.K X.mg X.base CX k f fd ps sp) (gd : Gd X.A) (hr : Room k X.A) (hg : Gl X x) (hm : X.mg x = some (.ref f)) (hk : PySem.W.keepIn X.K (.ref f) = true) (hb : Binds X.K fd ps ds) (hd : Vals dvs ds) (hx : Passes CX X E)
    (ha : PA X (e :: es) t) (hdb : (x == ("__debug__" : Str)) = false := by decide) (he : starEach (e :: es) X.env = (false, eval e X.env) :: starEach es X.env := by rfl) (hpl : (backTo pos (starEach es X.env)).any (·.1) = false := by rfl) :
    PE X (.Call (.Name x p) (e :: es) [] pos) (tCall sp dvs E t) := by
  constructor
  intro pins s σ H Q I h
  apply wpAny_Call_Name_kw
  refine ld_glob I hg hm (PySem.W.callWith_K (h₀ := X.base) I.ok.mod.kin hk (thn (ha.run pos pins s σ H _ I h) ?_) he hpl) hdb
  rintro us s1 ⟨vs, H1, I1, r, q⟩
  have r2 : Vals (vs ++ dvs) (us ++ ds) := r.append hd
  exact ⟨I1.kIn, runG F gd hr hx I1 (hb s1 us I1.kIn (r2.length.symm.trans (F.arity _ _ _ _ q))) r2 q⟩
/-- f() -/
theorem pe_g0 (F : FnG X.prog X.w X.K X.mg X.base CX k f fd ps sp) (gd : Gd X.A) (hr : Room k X.A) (hg : Gl X x) (hm : X.mg x = some (.ref f)) (hk : PySem.W.keepIn X.K (.ref f) = true) (hb : Binds X.K fd ps ds) (hd : Vals dvs ds) (hx : Passes CX X E)
    (hdb : (x == ("__debug__" : Str)) = false := by decide) : PE X (.Call (.Name x p) [] [] pos) (tCall sp dvs E tNil) := by
  constructor
  intro pins s σ H Q I h
  apply wpAny_Call_Name_kw
  refine ld_glob I hg hm (PySem.W.callWith_K0 I.kIn hk ?_) hdb
  have r2 : Vals ([] ++ dvs) ([] ++ ds) := Vals.append .nil hd
  exact runG (us0 := []) F gd hr hx I (hb s [] I.kIn (r2.length.symm.trans (F.arity _ _ _ _ h))) r2 h
/-- how a call by keywords alone binds: the keywords ks, brought into the parameters' order by g (by gV the values) -/
structure KwB (fd : FuncData) (ps ks : List Str) (g : List Value → List Value) (gV : List V → List V) : Prop where
  to : ∀ (s : Shared) (ws : List Value), ws.length = ks.length → BindsTo s fd ⟨[], ks.zip ws⟩ (ps.zip (g ws))
  rel : ∀ {zs : List V} {ws : List Value}, zs.length = ks.length → Vals zs ws → Vals (gV zs) (g ws)
def tCallW (sp : Sp) (n : Nat) (gV : List V → List V) (E : XK) (tk : TA) : TE := fun σ H Q => tk σ H fun zs H1 => zs.length = n ∧ sp (gV zs) H1 Q E
/-- f(k = v, ..) -/
theorem pe_gk {g : List Value → List Value} {gV : List V → List V} (F : FnG X.prog X.w X.K X.mg X.base CX k f fd ps sp) (gd : Gd X.A) (hr : Room k X.A) (hg : Gl X x) (hm : X.mg x = some (.ref f)) (hk : PySem.W.keepIn X.K (.ref f) = true) (hb : KwB fd ps ks g gV) (hx : Passes CX X E)
    (hkw : PK X kws tk) (hall : (backToKw pos (keywordEach kws X.env)).all (·.1.isSome) = true := by rfl) (hks : (backToKw pos (keywordEach kws X.env)).filterMap (·.1) = ks := by rfl) (hdb : (x == ("__debug__" : Str)) = false := by decide)
    (hpl : ((backTo pos (starEach [] X.env)).any (·.1) || (backToKw pos (keywordEach kws X.env)).any (·.1.isNone)) = false := by rfl) :
    PE X (.Call (.Name x p) [] kws pos) (tCallW sp ks.length gV E tk) := by
  constructor
  intro pins s σ H Q I h
  apply wpAny_Call_Name_kw
  refine ld_glob I hg hm (PySem.W.callWith_KW0 (h₀ := X.base) I.ok.mod.kin hk hall (thn (hkw.run pos pins s σ H _ I h) ?_) hpl) hdb
  rintro ws s1 ⟨zs, H1, I1, rz, l, q⟩
  rw [hks]
  exact ⟨I1.kIn, runG (us0 := []) F gd hr hx I1 (hb.to s1 ws (rz.length.symm.trans l)) (hb.rel l rz) q⟩
end

/-! ### operators -/
def CPowW (i j : Int) : Prop := 0 ≤ j ∧ (Builtin.Int.intBits i : Int) * j ≤ 2 ^ 27
theorem powW_ok {i : Int} {n j : Nat} (h : i.natAbs < 2 ^ n) (hj : n * j ≤ 134217728) : CPowW i (j : Int) := by
  have b := PyProof.Rows.intBits_le h
  refine ⟨Int.natCast_nonneg _, ?_⟩
  have e : (2 : Int) ^ 27 = 134217728 := by decide
  rw [e, ← Int.natCast_mul]
  have c : Builtin.Int.intBits i * j ≤ n * j := Nat.mul_le_mul_right j b
  omega
section
variable {X : Cx}
theorem op_powW : OpR X (binaryOp .Pow) (rI CPowW fun i j => .int (i ^ j.toNat)) := opI fun _ _ _ _ _ _ _ hc q => pow_int hc.1 hc.2 q
end
/-! ### data that may be shown and compared -/
mutual
/-- data without dicts, of numbers of at most 38 figures and plain texts -/
def okD : PyData → Bool
  | .none | .bool _ => true
  | .int i => decide (i.natAbs < 10 ^ 38)
  | .str x => PyData.strOk x && x.cps.toList.all fun c => decide (c < 16 ^ 8)
  | .list xs | .tuple xs => okDs xs
  | .dict _ => false
def okDs : List PyData → Bool
  | [] => true
  | x :: xs => okD x && okDs xs
end
theorem int38 {i : Int} (h : i.natAbs < 10 ^ 38) : i.natAbs.log2 < 1920 :=
  Nat.lt_of_lt_of_le (PySem.Flt.log2_lt_of (k := 127) (by decide) (Nat.lt_of_lt_of_le h (by decide +kernel))) (by decide)
theorem short38 {i : Int} (h : i.natAbs < 10 ^ 38) : (PyData.shown (.int i)).length ≤ 40 := by
  have e := int_text_length_le10 (k := 38) (by decide) h
  show (Str.ofString (toString i)).length ≤ 40
  rw [PySem.ofString_length]
  omega
mutual
theorem okD_all : ∀ d : PyData, okD d = true → d.canLay0 = true ∧ d.showable = true ∧ d.hasDict = false ∧ d.leavesShort 40 = true
  | .none, _ => ⟨by simp only [PyData.canLay0], by simp only [PyData.showable], by simp only [PyData.hasDict], by simp only [PyData.leavesShort]⟩
  | .bool _, _ => ⟨by simp only [PyData.canLay0], by simp only [PyData.showable], by simp only [PyData.hasDict], by simp only [PyData.leavesShort]⟩
  | .int i, h => by
    have h' : i.natAbs < 10 ^ 38 := by simpa only [okD, decide_eq_true_eq] using h
    exact ⟨by simp only [PyData.canLay0], by simp only [PyData.showable, decide_eq_true_eq]; exact int38 h', by simp only [PyData.hasDict], by simp only [PyData.leavesShort, decide_eq_true_eq]; exact short38 h'⟩
  | .str x, h => by
    have h' : PyData.strOk x = true ∧ (x.cps.toList.all fun c => decide (c < 16 ^ 8)) = true := by simpa only [okD, Bool.and_eq_true] using h
    exact ⟨by simp only [PyData.canLay0]; exact h'.1, by simp only [PyData.showable], by simp only [PyData.hasDict], by simp only [PyData.leavesShort]; exact h'.2⟩
  | .list xs, h => by
    obtain ⟨a, b, c, d⟩ := okDs_all xs (by simpa only [okD] using h)
    exact ⟨by simp only [PyData.canLay0]; exact a, by simp only [PyData.showable]; exact b, by simp only [PyData.hasDict]; exact c, by simp only [PyData.leavesShort]; exact d⟩
  | .tuple xs, h => by
    obtain ⟨a, b, c, d⟩ := okDs_all xs (by simpa only [okD] using h)
    exact ⟨by simp only [PyData.canLay0]; exact a, by simp only [PyData.showable]; exact b, by simp only [PyData.hasDict]; exact c, by simp only [PyData.leavesShort]; exact d⟩
  | .dict _, h => by simp only [okD] at h; cases h
theorem okDs_all : ∀ ds : List PyData, okDs ds = true → PyData.canLayAll0 ds = true ∧ PyData.showableAll ds = true ∧ PyData.hasDictAll ds = false ∧ PyData.leavesShortAll 40 ds = true
  | [], _ => ⟨by simp only [PyData.canLayAll0], by simp only [PyData.showableAll], by simp only [PyData.hasDictAll], by simp only [PyData.leavesShortAll]⟩
  | x :: xs, h => by
    have h' : okD x = true ∧ okDs xs = true := by simpa only [okDs, Bool.and_eq_true] using h
    obtain ⟨a, b, c, d⟩ := okD_all x h'.1
    obtain ⟨a2, b2, c2, d2⟩ := okDs_all xs h'.2
    exact ⟨by simp only [PyData.canLayAll0, a, a2, Bool.and_self], by simp only [PyData.showableAll, b, b2, Bool.and_self], by simp only [PyData.hasDictAll, c, c2, Bool.or_self], by simp only [PyData.leavesShortAll, d, d2, Bool.and_self]⟩
end
structure Nice (d : PyData) : Prop where
  ok : okD d = true
  deep : d.depth ≤ 60
  small : d.bulk ≤ 262144
theorem Nice.shaped {d : PyData} (n : Nice d) : SeqAt.shaped d = true := by
  show (d.canLay0 && decide (d.depth ≤ 64)) = true
  rw [(okD_all d n.ok).1, decide_eq_true (show d.depth ≤ 64 by have := n.deep; omega)]
  rfl
theorem Nice.fits {d : PyData} (n : Nice d) : d.shown.length ≤ sizeLine := by
  have h := PyData.shown_le_bulk 40 (by decide) d (okD_all d n.ok).2.2.2
  have k := n.small
  rw [sizeLine_eq]
  omega
theorem Nice.refl {d : PyData} (n : Nice d) : PyData.eqv d d = true := SeqAt.eqv_refl d (okD_all d n.ok).1
theorem Nice.int {i : Int} (h : i.natAbs < 10 ^ 38) : Nice (.int i) := ⟨by simp only [okD, decide_eq_true_eq]; exact h, by simp only [PyData.depth]; omega, by simp only [PyData.bulk]; omega⟩
theorem okDs_map {α : Type} (f : α → PyData) : ∀ l : List α, (∀ x ∈ l, okD (f x) = true) → okDs (l.map f) = true
  | [], _ => by simp only [List.map_nil, okDs]
  | x :: r, h => by
    simp only [List.map_cons, okDs, Bool.and_eq_true]
    exact ⟨h x (List.mem_cons_self ..), okDs_map f r fun y hy => h y (List.mem_cons_of_mem _ hy)⟩
theorem depthAll_le {n : Nat} : ∀ l : List PyData, (∀ x ∈ l, x.depth ≤ n) → PyData.depthAll l ≤ n
  | [], _ => by simp only [PyData.depthAll]; omega
  | x :: r, h => by
    have h1 := h x (List.mem_cons_self ..)
    have h2 := depthAll_le r fun y hy => h y (List.mem_cons_of_mem _ hy)
    simp only [PyData.depthAll]
    omega
theorem bulkAll_le {n : Nat} : ∀ l : List PyData, (∀ x ∈ l, x.bulk ≤ n) → PyData.bulkAll l ≤ l.length * (n + 1)
  | [], _ => by simp only [PyData.bulkAll]; omega
  | x :: r, h => by
    have h1 := h x (List.mem_cons_self ..)
    have h2 := bulkAll_le r fun y hy => h y (List.mem_cons_of_mem _ hy)
    simp only [PyData.bulkAll, List.length_cons]
    rw [Nat.succ_mul]
    omega
theorem Nice.listInt {l : List Int} (h : ∀ x ∈ l, x.natAbs < 10 ^ 38) (hl : l.length ≤ 100000) : Nice (.list (l.map .int)) := by
  refine ⟨?_, ?_, ?_⟩
  · simp only [okD]
    exact okDs_map _ l fun x hx => (Nice.int (h x hx)).ok
  · have := depthAll_le (n := 0) (l.map PyData.int) fun x hx => by
      obtain ⟨i, _, rfl⟩ := List.mem_map.mp hx
      simp only [PyData.depth]; omega
    simp only [PyData.depth]; omega
  · have := bulkAll_le (n := 0) (l.map PyData.int) fun x hx => by
      obtain ⟨i, _, rfl⟩ := List.mem_map.mp hx
      simp only [PyData.bulk]; omega
    simp only [PyData.bulk]
    rw [List.length_map] at this
    omega
theorem dps_int {K : PySem.W.Frag} {H : Hp} : ∀ l : List Int, DpAll K H (l.map V.int) (l.map PyData.int)
  | [] => .nil
  | x :: r => .cons (.int x) (dps_int r)
theorem dp_int {K : PySem.W.Frag} {H : Hp} {a : Addr} {l : List Int} (h : SqL K H a (l.map V.int)) : Dp K H (.ref a) (.list (l.map PyData.int)) := .lst h (dps_int l)
section
variable {X : Cx}
/-- repr of data: its text -/
def rRepr (K : PySem.W.Frag) : List V → Hp → VK → Prop := fun xs H Q => ∃ (x : V) (d : PyData), xs = [x] ∧ Dp K H x d ∧ Nice d ∧ Q (.str d.shown) H
theorem call_reprD (gd : Gd X.A) (hu : X.A.units + 64 < cLine) : CallR X (.builtin "repr") (rRepr X.K) := by
  intro pins s σ H xs us Q I r h
  obtain ⟨x, d, rfl, dp, nice, q⟩ := h
  obtain ⟨_, sh, nd, _⟩ := okD_all d nice.ok
  have sz := nice.fits
  have dep := nice.deep
  obtain ⟨u, rfl, ru⟩ := vals1 r
  obtain ⟨as, rd⟩ := Dp.reads I d x u dp ru
  have hsm : d.hasDict = true → sysModules ∉ as := fun e => by rw [nd] at e; cases e
  cases dp with
  | non => cases (show u = Value.none from ru); exact PySem.P.repr_of_none ⟨.str _, H, I.tok _, ⟨_, rfl⟩, q⟩
  | bl b => cases (show u = Value.bool b from ru); exact PySem.P.repr_of_bool ⟨.str _, H, I.tok _, ⟨_, rfl⟩, by simpa only [PyData.shown] using q⟩
  | int i => obtain ⟨t, rfl⟩ := ru; exact PySem.P.repr_of_int (by simpa only [PyData.showable, decide_eq_true_eq] using sh) ⟨.str _, H, I.tok _, ⟨_, rfl⟩, by simpa only [PyData.shown] using q⟩
  | str z => obtain ⟨t, rfl⟩ := ru; exact PySem.P.repr_of_str ⟨.str _, H, I.tok _, ⟨_, rfl⟩, by simpa only [PyData.shown] using q⟩ (by simpa only [PyData.shown] using sz)
  | @lst a xs ds e1 e2 =>
    cases (show u = Value.ref a from ru)
    exact repr_of_reads' rd sh hsm gd (by omega) (fun _ _ e => e) (fun h' u tk hk => ⟨.str _, H, I.kept hk, ⟨_, rfl⟩, q⟩) sz
  | @tup a xs ds e1 e2 =>
    cases (show u = Value.ref a from ru)
    exact repr_of_reads' rd sh hsm gd (by omega) (fun _ _ e => e) (fun h' u tk hk => ⟨.str _, H, I.kept hk, ⟨_, rfl⟩, q⟩) sz
end
/-! ### heaps -/
/-- all but what stands at a is as it was -/
def SameX (a : Addr) (H H' : Hp) : Prop := ∀ b o, b ≠ a → H b = some o → H' b = some o
theorem SameX.refl (a : Addr) (H : Hp) : SameX a H H := fun _ _ _ h => h
theorem SameX.of {a : Addr} {H H' : Hp} (e : Same H H') : SameX a H H' := fun b o _ h => e b o h
theorem SameX.trans {a : Addr} {H H1 H2 : Hp} (e : SameX a H H1) (f : SameX a H1 H2) : SameX a H H2 := fun b o n h => f b o n (e b o n h)
theorem SameX.upd {a : Addr} {H : Hp} {o : HO} : SameX a H (upd H a o) := fun b x n h => by rw [upd_ne n]; exact h
/-- what was there before a was made -/
theorem SameX.same {a : Addr} {H0 H H' : Hp} (e : SameX a H H') (s : Same H0 H) (n : H0 a = none) : Same H0 H' := fun b o h => e b o (ne_of_none h n) (s b o h)
theorem same_new' {H : Hp} {p : Addr} {o : HO} (h : H p = none) : Same H (upd H p o) := fun b x e => by
  rw [upd_ne (ne_of_none e h)]
  exact e
/-! ### tests -/
/-- a comprehension without a test keeps each item -/
theorem yes_if {σ : L2.St} {H : Hp} {A B : Hp → Prop} (h : A H) : tYes σ H fun b H3 => if b = true then A H3 else B H3 := by
  show if true = true then A H else B H
  exact iteT h

/-! ### the law's own call -/
section
variable {P : Program} {w : World} {K : PySem.W.Frag} {mg mb : Str → Option Value} {CX : CXT} {k : Nat} {fa a : Addr} {fd : FuncData} {x : Str} {sp : Sp} {st : Shared} {its : List Value} {ns : List Int}
/-- the call over an abstract heap that tracks nothing but (perhaps) the script -/
theorem lawG_at {H : Hp} (inK : K.In st.heap) (globals : st.heap.Ns mainGlobals mg) (blt : st.heap.Ns builtinsNs mb) (bltIs : ∀ x : Str, x ≠ "__name__" → mb x = bootBuiltins x) (noLim : st.heap.NoLimit) (noGen : st.gens = #[])
    (lst : st.heap.get? a = some { cls := .type "list", data := .seq its.toArray }) (room : Room k callerA)
    (F : ∀ base : Heap, K.In base → base.Ns mainGlobals mg → FnG P w K mg base CX k fa fd [x] sp) (binds : ∀ (s : Shared) (u : Value), BindsTo s fd ⟨[u], []⟩ [(x, u)])
    (want : sp [.ref a] H (fun v _ => v = .bl true) fun _ _ _ => False) (noEx : ∀ e s', CX [] H st (fun _ _ _ => False) e s' → False)
    (only : Only H) (held : HOk P w H st.heap) (atA : ∀ b, H b ≠ none → b = a) (notK : H a ≠ none → K.lookup a = none) :
    codeAny (model P w) callerA (.call (.ref fa) ⟨[.ref a], []⟩) (fun r s' => r = .ok (.ret (.bool true)) ∧ OldK st.heap s'.heap ∧ s'.os = st.os ∧ AllBare s'.gens) st := by
  have dicts : ∀ {b : Addr} {m : Str → Option Value}, st.heap.Ns b m → (hidT st.heap H).Ns b m := by
    rintro b m ⟨o, es, ep, q, d, rest⟩
    refine ⟨o, es, ep, hidT_get q ?_, d, rest⟩
    cases z : H b with
    | none => rfl
    | some u =>
      have eb := atA b (by rw [z]; exact Option.some_ne_none u)
      rw [eb, lst] at q
      have eo := Option.some.inj q
      rw [← eo] at d
      exact (nomatch (show Data.seq its.toArray _ = Data.dict es ep from d))
  have baseK : K.In (hidT st.heap H) := by
    intro b o q
    refine hidT_get (inK b o q) ?_
    cases z : H b with
    | none => rfl
    | some u =>
      have ne : H b ≠ none := by rw [z]; exact Option.some_ne_none u
      have eb := atA b ne
      subst eb
      rw [notK ne] at q
      exact nomatch q
  obtain ⟨mc, l1, l2⟩ := noLim
  have env : Env0 P w K mg (hidT st.heap H) callerA [] st H :=
    { frames := rfl, mod := { kin := baseK, glob := dicts globals, blt := ⟨mb, dicts blt, bltIs⟩, nolimit := ⟨mc, dicts l1, l2⟩ }, bs := fun b o q => of_hidT q,
      bsz := Nat.le_of_eq (hidT_size _ _), funs := trivial, frf := fun b z => (nomatch z), hok := held, bare := .of_eq noGen }
  refine codeAny_mono ((F _ baseK (dicts globals)).go callerA [] st H ⟨[.ref a], []⟩ [.ref a] [.ref a] _ _ rfl room env (binds st (.ref a)) (.cons rfl .nil) want) ?_
  intro r s' q
  match r, q with
  | .error e, q => exact (noEx e s' q).elim
  | .ok .next, q => exact (show False from q).elim
  | .ok .brk, q => exact (show False from q).elim
  | .ok .cont, q => exact (show False from q).elim
  | .ok (.ret u), ⟨v, H', eos, bare, un, held', rv, ev⟩ =>
    have ev' : v = .bl true := ev
    subst ev'
    cases (show u = Value.bool true from rv)
    refine ⟨rfl, OldK.of_keep ?_, eos, bare⟩
    intro b o q
    cases z : H b with
    | none => exact un.keep b o q z (fun y => nomatch y) (fun y => nomatch y)
    | some u =>
      obtain y | ⟨ob, xs, y⟩ := only b
      · rw [z] at y
        exact nomatch y
      · have q1 := (held b _ y).1
        have q2 := (held' b _ (un.frzs b ob _ y)).1
        rw [q] at q1
        rw [Option.some.inj q1]
        exact q2
theorem lawG (inK : K.In st.heap) (globals : st.heap.Ns mainGlobals mg) (blt : st.heap.Ns builtinsNs mb) (bltIs : ∀ x : Str, x ≠ "__name__" → mb x = bootBuiltins x) (noLim : st.heap.NoLimit) (noGen : st.gens = #[])
    (lst : st.heap.get? a = some { cls := .type "list", data := .seq its.toArray }) (areInts : IntsAre its ns) (len : ns.length ≤ sizeLine) (room : Room k callerA)
    (F : ∀ base : Heap, K.In base → base.Ns mainGlobals mg → FnG P w K mg base CX k fa fd [x] sp) (binds : ∀ (s : Shared) (u : Value), BindsTo s fd ⟨[u], []⟩ [(x, u)])
    (want : ∀ H : Hp, Only H → SqL K H a (ns.map V.int) → sp [.ref a] H (fun v _ => v = .bl true) fun _ _ _ => False) (noEx : ∀ H e s', CX [] H st (fun _ _ _ => False) e s' → False) :
    codeAny (model P w) callerA (.call (.ref fa) ⟨[.ref a], []⟩) (fun r s' => r = .ok (.ret (.bool true)) ∧ OldK st.heap s'.heap ∧ s'.os = st.os ∧ AllBare s'.gens) st := by
  have rel := vals_ints areInts
  cases z : K.lookup a with
  | some o =>
    have q := inK a o z
    rw [lst] at q
    have eo := Option.some.inj q
    subst eo
    have only : Only (fun _ => none) := fun _ => Or.inl rfl
    have sq : SqL K (fun _ => none) a (ns.map V.int) := Or.inr ⟨_, its.toArray, _, z, rfl, rfl, rfl, by rw [List.size_toArray, areInts.length]; exact len, rel⟩
    exact lawG_at inK globals blt bltIs noLim noGen lst room F binds (want _ only sq) (noEx _) only (fun b u y => nomatch (show none = some u from y)) (fun b y => (y rfl).elim) (fun y => (y rfl).elim)
  | none =>
    let H : Hp := upd (fun _ => none) a (.frz { cls := .type "list", data := .seq its.toArray } (.lst (ns.map V.int)))
    have at1 : H a = some (.frz { cls := .type "list", data := .seq its.toArray } (.lst (ns.map V.int))) := upd_same
    have off : ∀ b, b ≠ a → H b = none := fun b hb => upd_ne hb
    have only : Only H := by
      intro b
      by_cases hb : b = a
      · rw [hb]
        exact Or.inr ⟨_, _, at1⟩
      · exact Or.inl (off b hb)
    have only1 : ∀ b, H b ≠ none → b = a := by
      intro b y
      by_cases hb : b = a
      · exact hb
      · exact (y (off b hb)).elim
    have held : HOk P w H st.heap := by
      intro b u y
      have hb : b = a := only1 b (by rw [y]; exact Option.some_ne_none u)
      subst hb
      rw [at1] at y
      rw [← Option.some.inj y]
      exact ⟨lst, by rw [List.length_map]; exact len, its, _, rel, lst⟩
    exact lawG_at inK globals blt bltIs noLim noGen lst room F binds (want _ only (Or.inl (Or.inr ⟨_, at1⟩))) (noEx _) only held only1 fun _ => z
end
/-- a law: what the head leaves, from the law's promise -/
theorem walkG {l : PySem.W.OpenLaw} {n k : Nat} {q : Program} {loose : List Str} {XP : (Str → Option Value) → Heap → Prop} {YP : World → Heap → Prop} {d : DefRec} {x : Str}
    (most : l.most = some n) (small : n ≤ sizeLine) (plain : d.params.defaults = []) (room : Room k callerA)
    (F : ∀ (w : World) (mg : Str → Option Value) (fa : Addr) (h : Heap), YP w h → h.Ns mainGlobals mg → mg d.name = some (.ref fa) →
      ∃ (K : PySem.W.Frag) (fd : FuncData) (sp : Sp), K.In h ∧ (∀ (s : Shared) (u : Value), BindsTo s fd ⟨[u], []⟩ [(x, u)]) ∧
        (∀ (H : Hp) (a : Addr) (ns : List Int), ns.length ≤ n → Only H → SqL K H a (ns.map V.int) → sp [.ref a] H (fun v _ => v = .bl true) fun _ _ _ => False) ∧
        ∀ base : Heap, K.In base → base.Ns mainGlobals mg → FnG l.prog w K mg base CX0 k fa fd [x] sp) :
    PySem.W.WalkO q loose XP YP l.row.toRowW d [] (fun f vs => PySem.call f vs) := by
  apply Att.attach_call most plain
  intro w s0 s1 mg mb fa o pm cd doc a vs ns G Y _ _ _ gl lst areInts len gens
  obtain ⟨K, fd, sp, inK, binds, want, run⟩ := F w mg fa _ Y G.T.g gl
  exact lawG inK G.T.g G.T.b G.T.builtins G.T.nolimit gens lst areInts (Nat.le_trans len small) room run binds (fun H o s => want H a ns len o s) fun _ _ _ y => y.elim
end Hw

set_option Elab.async false
set_option linter.all false
set_option maxRecDepth 100000
set_option maxHeartbeats 4000000

namespace K03
open PySem PySem.Spec PyProof.Rows L2 Hw
def topS (i : Nat) : Stmt := PySem.Challenge.pw_howeverwide_k03_whole_bits.main.body.getD i (.Pass ⟨0, 0, 0, 0⟩)
abbrev s_is_whole : Stmt := topS 7
theorem sc_is_whole : FnScope ["value"] ["value"] (defScope s_is_whole) := ⟨rfl, rfl, rfl, by decide +kernel, rfl, by decide +kernel, by decide +kernel⟩
abbrev s_is_count_to : Stmt := topS 8
theorem sc_is_count_to : FnScope ["value", "most"] ["value", "most"] (defScope s_is_count_to) := ⟨rfl, rfl, rfl, by decide +kernel, rfl, by decide +kernel, by decide +kernel⟩
abbrev s_is_bit : Stmt := topS 9
theorem sc_is_bit : FnScope ["value"] ["value"] (defScope s_is_bit) := ⟨rfl, rfl, rfl, by decide +kernel, rfl, by decide +kernel, by decide +kernel⟩
abbrev s_is_word_of : Stmt := topS 10
theorem sc_is_word_of : FnScope ["width", "value"] ["width", "value"] (defScope s_is_word_of) := ⟨rfl, rfl, rfl, by decide +kernel, rfl, by decide +kernel, by decide +kernel⟩
abbrev s_check_width : Stmt := topS 11
theorem sc_check_width : FnScope ["width"] ["width"] (defScope s_check_width) := ⟨rfl, rfl, rfl, by decide +kernel, rfl, by decide +kernel, by decide +kernel⟩
abbrev s_check_width_to : Stmt := topS 12
theorem sc_check_width_to : FnScope ["width", "most"] ["width", "most"] (defScope s_check_width_to) := ⟨rfl, rfl, rfl, by decide +kernel, rfl, by decide +kernel, by decide +kernel⟩
abbrev s_bits_of : Stmt := topS 14
theorem sc_bits_of : FnScope ["width", "word", "place"] ["width", "word"] (defScope s_bits_of) := ⟨rfl, rfl, rfl, by decide +kernel, rfl, by decide +kernel, by decide +kernel⟩
abbrev s_word_of_bits : Stmt := topS 15
theorem sc_word_of_bits : FnScope ["bits", "place", "bit"] ["bits"] (defScope s_word_of_bits) := ⟨rfl, rfl, rfl, by decide +kernel, rfl, by decide +kernel, by decide +kernel⟩
abbrev s_law_hash : Stmt := topS 17
theorem sc_law_hash : FnScope ["_law_seed", "_law_index", "_law_mixed"] ["_law_seed", "_law_index"] (defScope s_law_hash) := ⟨rfl, rfl, rfl, by decide +kernel, rfl, by decide +kernel, by decide +kernel⟩
abbrev s_law_random : Stmt := topS 18
theorem sc_law_random : FnScope ["_law_generator_here", "_law_bound", "_law_drawn", "_law_turn"] ["_law_generator_here", "_law_bound"] (defScope s_law_random) := ⟨rfl, rfl, rfl, by decide +kernel, rfl, by decide +kernel, by decide +kernel⟩
abbrev s_law_cell : Stmt := topS 19
theorem sc_law_cell : FnScope ["_law_script", "_law_index"] ["_law_script", "_law_index"] (defScope s_law_cell) := ⟨rfl, rfl, rfl, by decide +kernel, rfl, by decide +kernel, by decide +kernel⟩
abbrev s_law_generator : Stmt := topS 20
theorem sc_law_generator : FnScope ["_law_script", "_law_index", "_law_seed"] ["_law_script", "_law_index"] (defScope s_law_generator) := ⟨rfl, rfl, rfl, by decide +kernel, rfl, by decide +kernel, by decide +kernel⟩
abbrev s_law_two : Stmt := topS 21
theorem sc_law_two : FnScope ["_law_many"] ["_law_many"] (defScope s_law_two) := ⟨rfl, rfl, rfl, by decide +kernel, rfl, by decide +kernel, by decide +kernel⟩
abbrev s_law_right : Stmt := topS 22
theorem sc_law_right : FnScope ["_law_generator_here", "_law_width_there", "_law_words", "_law_word_there", "_law_due", "_law_left", "_law_place", "_law_told", "_law_turn"] ["_law_generator_here"] (defScope s_law_right) := ⟨rfl, rfl, rfl, by decide +kernel, rfl, by decide +kernel, by decide +kernel⟩
abbrev s_law : Stmt := topS 23
theorem sc_law : FnScope ["_law_script", "_law_index"] ["_law_script"] (defScope s_law) := ⟨rfl, rfl, rfl, by decide +kernel, rfl, by decide +kernel, by decide +kernel⟩
/-- what the top has written -/
structure Tx (K : PySem.W.Frag) (mg : Str → Option Value) where
  a_is_whole : Addr
  d_is_whole : FuncData
  F_is_whole : DefAt K "is_whole" s_is_whole a_is_whole d_is_whole
  g_is_whole : mg "is_whole" = some (.ref a_is_whole)
  a_is_count_to : Addr
  d_is_count_to : FuncData
  F_is_count_to : DefAt K "is_count_to" s_is_count_to a_is_count_to d_is_count_to
  g_is_count_to : mg "is_count_to" = some (.ref a_is_count_to)
  a_is_bit : Addr
  d_is_bit : FuncData
  F_is_bit : DefAt K "is_bit" s_is_bit a_is_bit d_is_bit
  g_is_bit : mg "is_bit" = some (.ref a_is_bit)
  a_is_word_of : Addr
  d_is_word_of : FuncData
  F_is_word_of : DefAt K "is_word_of" s_is_word_of a_is_word_of d_is_word_of
  g_is_word_of : mg "is_word_of" = some (.ref a_is_word_of)
  a_check_width : Addr
  d_check_width : FuncData
  F_check_width : DefAt K "check_width" s_check_width a_check_width d_check_width
  g_check_width : mg "check_width" = some (.ref a_check_width)
  a_check_width_to : Addr
  d_check_width_to : FuncData
  F_check_width_to : DefAt K "check_width_to" s_check_width_to a_check_width_to d_check_width_to
  g_check_width_to : mg "check_width_to" = some (.ref a_check_width_to)
  a_bits_of : Addr
  d_bits_of : FuncData
  F_bits_of : DefAt K "bits_of" s_bits_of a_bits_of d_bits_of
  g_bits_of : mg "bits_of" = some (.ref a_bits_of)
  a_word_of_bits : Addr
  d_word_of_bits : FuncData
  F_word_of_bits : DefAt K "word_of_bits" s_word_of_bits a_word_of_bits d_word_of_bits
  g_word_of_bits : mg "word_of_bits" = some (.ref a_word_of_bits)
  a_law_hash : Addr
  d_law_hash : FuncData
  F_law_hash : DefAt K "_law_hash" s_law_hash a_law_hash d_law_hash
  g_law_hash : mg "_law_hash" = some (.ref a_law_hash)
  a_law_random : Addr
  d_law_random : FuncData
  F_law_random : DefAt K "_law_random" s_law_random a_law_random d_law_random
  g_law_random : mg "_law_random" = some (.ref a_law_random)
  a_law_cell : Addr
  d_law_cell : FuncData
  F_law_cell : DefAt K "_law_cell" s_law_cell a_law_cell d_law_cell
  g_law_cell : mg "_law_cell" = some (.ref a_law_cell)
  a_law_generator : Addr
  d_law_generator : FuncData
  F_law_generator : DefAt K "_law_generator" s_law_generator a_law_generator d_law_generator
  g_law_generator : mg "_law_generator" = some (.ref a_law_generator)
  a_law_two : Addr
  d_law_two : FuncData
  F_law_two : DefAt K "_law_two" s_law_two a_law_two d_law_two
  g_law_two : mg "_law_two" = some (.ref a_law_two)
  a_law_right : Addr
  d_law_right : FuncData
  F_law_right : DefAt K "_law_right" s_law_right a_law_right d_law_right
  g_law_right : mg "_law_right" = some (.ref a_law_right)
  a_law : Addr
  d_law : FuncData
  F_law : DefAt K "law" s_law a_law d_law
  g_law : mg "law" = some (.ref a_law)
  z_all : mg "all" = none
  z_bool : mg "bool" = none
  z_enumerate : mg "enumerate" = none
  z_int : mg "int" = none
  z_isinstance : mg "isinstance" = none
  z_len : mg "len" = none
  z_list : mg "list" = none
  z_max : mg "max" = none
  z_range : mg "range" = none
  z_repr : mg "repr" = none
  z_sum : mg "sum" = none
  c_MOST_WIDTH : ∃ u, mg "MOST_WIDTH" = some u ∧ RelV (.int 64) u
section
variable {K : PySem.W.Frag} {mg : Str → Option Value}
theorem Tx.b_is_whole (T : Tx K mg) : Binds K T.d_is_whole ["value"] [] := T.F_is_whole.bindsN fun _ _ _ _ _ _ us hl => match us, hl with | [_], _ => rfl
theorem Tx.b_is_count_to (T : Tx K mg) : Binds K T.d_is_count_to ["value", "most"] [] := T.F_is_count_to.bindsN fun _ _ _ _ _ _ us hl => match us, hl with | [_, _], _ => rfl
theorem Tx.b_is_bit (T : Tx K mg) : Binds K T.d_is_bit ["value"] [] := T.F_is_bit.bindsN fun _ _ _ _ _ _ us hl => match us, hl with | [_], _ => rfl
theorem Tx.b_is_word_of (T : Tx K mg) : Binds K T.d_is_word_of ["width", "value"] [] := T.F_is_word_of.bindsN fun _ _ _ _ _ _ us hl => match us, hl with | [_, _], _ => rfl
theorem Tx.b_check_width (T : Tx K mg) : Binds K T.d_check_width ["width"] [] := T.F_check_width.bindsN fun _ _ _ _ _ _ us hl => match us, hl with | [_], _ => rfl
theorem Tx.b_check_width_to (T : Tx K mg) : Binds K T.d_check_width_to ["width", "most"] [] := T.F_check_width_to.bindsN fun _ _ _ _ _ _ us hl => match us, hl with | [_, _], _ => rfl
theorem Tx.b_bits_of (T : Tx K mg) : Binds K T.d_bits_of ["width", "word"] [] := T.F_bits_of.bindsN fun _ _ _ _ _ _ us hl => match us, hl with | [_, _], _ => rfl
theorem Tx.b_word_of_bits (T : Tx K mg) : Binds K T.d_word_of_bits ["bits"] [] := T.F_word_of_bits.bindsN fun _ _ _ _ _ _ us hl => match us, hl with | [_], _ => rfl
theorem Tx.b_law_hash (T : Tx K mg) : Binds K T.d_law_hash ["_law_seed", "_law_index"] [] := T.F_law_hash.bindsN fun _ _ _ _ _ _ us hl => match us, hl with | [_, _], _ => rfl
theorem Tx.b_law_random (T : Tx K mg) : Binds K T.d_law_random ["_law_generator_here", "_law_bound"] [] := T.F_law_random.bindsN fun _ _ _ _ _ _ us hl => match us, hl with | [_, _], _ => rfl
theorem Tx.b_law_cell (T : Tx K mg) : Binds K T.d_law_cell ["_law_script", "_law_index"] [] := T.F_law_cell.bindsN fun _ _ _ _ _ _ us hl => match us, hl with | [_, _], _ => rfl
theorem Tx.b_law_generator (T : Tx K mg) : Binds K T.d_law_generator ["_law_script", "_law_index"] [] := T.F_law_generator.bindsN fun _ _ _ _ _ _ us hl => match us, hl with | [_, _], _ => rfl
theorem Tx.b_law_two (T : Tx K mg) : Binds K T.d_law_two ["_law_many"] [] := T.F_law_two.bindsN fun _ _ _ _ _ _ us hl => match us, hl with | [_], _ => rfl
theorem Tx.b_law_right (T : Tx K mg) : Binds K T.d_law_right ["_law_generator_here"] [] := T.F_law_right.bindsN fun _ _ _ _ _ _ us hl => match us, hl with | [_], _ => rfl
theorem Tx.b_law (T : Tx K mg) : Binds K T.d_law ["_law_script"] [] := T.F_law.bindsN fun _ _ _ _ _ _ us hl => match us, hl with | [_], _ => rfl
theorem Tx.w_bits_of_word_width (T : Tx K mg) : KwB T.d_bits_of ["width", "word"] ["word", "width"] (fun ws => match ws with | [x0, x1] => [x1, x0] | _ => []) (fun ws => match ws with | [x0, x1] => [x1, x0] | _ => []) := by
  obtain ⟨oc, od, dV, kV, doc, pm, an, cdv, ct, osl, e, _, _, hD, _⟩ := T.F_bits_of.ex
  have ed : dV = .none := hD.elim And.right fun z => (z.1 rfl).elim
  subst ed
  refine ⟨fun s ws hl => ?_, fun {zs ws} hl r => ?_⟩
  · rw [e]
    match ws, hl with | [_, _], _ => exact .of_eq rfl
  · match zs, ws, r with | [_, _], [_, _], .cons r0 (.cons r1 .nil) => exact .cons r1 (.cons r0 .nil)
theorem Tx.w_word_of_bits_bits (T : Tx K mg) : KwB T.d_word_of_bits ["bits"] ["bits"] (fun ws => match ws with | [x0] => [x0] | _ => []) (fun ws => match ws with | [x0] => [x0] | _ => []) := by
  obtain ⟨oc, od, dV, kV, doc, pm, an, cdv, ct, osl, e, _, _, hD, _⟩ := T.F_word_of_bits.ex
  have ed : dV = .none := hD.elim And.right fun z => (z.1 rfl).elim
  subst ed
  refine ⟨fun s ws hl => ?_, fun {zs ws} hl r => ?_⟩
  · rw [e]
    match ws, hl with | [_], _ => exact .of_eq rfl
  · match zs, ws, r with | [_], [_], .cons r0 .nil => exact .cons r0 .nil
end

/-! ### the law's own random numbers -/
section
variable {P : Program} {w : World} {K : PySem.W.Frag} {mg : Str → Option Value} {base : Heap}
/-- the seed is a rest by 2147483647, the index not far -/
def spHash : Sp := fun vs H Q _ => ∃ a b : Int, vs = [.int a, .int b] ∧ 0 ≤ a ∧ a < 2147483648 ∧ 0 ≤ b ∧ b < 4294967296 ∧ ∀ r : Int, 0 ≤ r → r < 2147483647 → Q (.int r) H
theorem nlt {i : Int} {n : Nat} (h0 : 0 ≤ i) (h : i < 2 ^ n) : i.natAbs < 2 ^ n := by
  have e : ((2 ^ n : Nat) : Int) = (2 : Int) ^ n := by rw [Int.natCast_pow]; rfl
  omega
theorem ok_law_hash (T : Tx K mg) : FnG P w K mg base CX0 1 T.a_law_hash T.d_law_hash ["_law_seed", "_law_index"] spHash := by
  refine bodyG0 T.F_law_hash sc_law_hash (fun vs H Q E h => ?_) (fun cdv A outer s H vs Q E gd hr h => ?_)
  · obtain ⟨a, b, rfl, _⟩ := h; rfl
  · obtain ⟨a, b, rfl, a0, a1, b0, b1, q⟩ := h
    refine ⟨_, (pss_cons (ps_set (i := 2) sc_law_hash.nd rfl (Or.inl rfl) (pe_op op_mod (pe_callTy call_int1 (by rfl) T.z_int (by decide +kernel) (pa_cons (pe_op op_add (pe_op op_add (pe_op op_add (pe_op op_mulX (pv 0) pe_int) (pe_op op_mulX (pe_op op_mulX pe_int (pv 1)) (pv 1))) (pe_op op_mulX pe_int (pv 1))) pe_int) pa_nil)) pe_int))
      (pss_cons (ps_set (i := 2) sc_law_hash.nd rfl (Or.inl rfl) (pe_op op_mod (pe_callTy call_int1 (by rfl) T.z_int (by decide +kernel) (pa_cons (pe_op op_add (pe_op op_add (pe_op op_mulX (pv 2) (pv 2)) (pe_op op_mulX pe_int (pv 1))) pe_int) pa_nil)) pe_int))
      (pss_one (ps_ret (pe_op op_mod (pe_callTy call_int1 (by rfl) T.z_int (by decide +kernel) (pa_cons (pe_op op_mulX (pv 2) pe_int) pa_nil)) pe_int))))), ?_⟩
    have ha : a.natAbs < 2 ^ 31 := nlt a0 a1
    have hb : b.natAbs < 2 ^ 32 := nlt b0 b1
    refine ⟨_, rfl, _, _, rfl, rfl, mulx_ok ha (b := 31) (by decide) (by decide), _, rfl, _, _, rfl, rfl, mulx_ok (a := 31) (by decide) hb (by decide), _, rfl, _, _, rfl, rfl, mulx_ok (wide_lt (a := 31) (by decide) hb) hb (by decide), _, _, rfl, rfl, _, rfl, _, _, rfl, rfl, mulx_ok (a := 31) (by decide) hb (by decide), _, _, rfl, rfl, _, _, rfl, rfl, .inl ⟨_, rfl, _, _, rfl, rfl, (by decide : (0 : Int) < 2147483629), ?_⟩⟩
    dsimp only
    generalize (a * 1140671 + 27644437 * b * b + 131 * b + 19) = x1
    have x0 := Int.emod_nonneg x1 (by decide : (2147483629 : Int) ≠ 0)
    have x2 := Int.emod_lt_of_pos x1 (by decide : (0 : Int) < 2147483629)
    generalize x1 % 2147483629 = x at x0 x2
    have hx : x.natAbs < 2 ^ 31 := nlt x0 (by omega)
    refine ⟨_, rfl, _, rfl, _, _, rfl, rfl, mulx_ok hx hx (by decide), _, rfl, _, _, rfl, rfl, mulx_ok (a := 31) (by decide) hb (by decide), _, _, rfl, rfl, _, _, rfl, rfl, .inl ⟨_, rfl, _, _, rfl, rfl, (by decide : (0 : Int) < 2147483587), ?_⟩⟩
    dsimp only
    generalize (x * x + 62089 * b + 32416187) = y1
    have y0 := Int.emod_nonneg y1 (by decide : (2147483587 : Int) ≠ 0)
    have y2 := Int.emod_lt_of_pos y1 (by decide : (0 : Int) < 2147483587)
    generalize y1 % 2147483587 = y at y0 y2
    have hy : y.natAbs < 2 ^ 31 := nlt y0 (by omega)
    refine ⟨_, rfl, _, _, rfl, rfl, mulx_ok hy (b := 31) (by decide) (by decide), .inl ⟨_, rfl, _, _, rfl, rfl, (by decide : (0 : Int) < 2147483647), ?_⟩⟩
    exact q _ (Int.emod_nonneg _ (by decide)) (Int.emod_lt_of_pos _ (by decide))

/-- the generator: what is left of a great seed, the seed's rest, the index -/
structure GenOk (s t c m : Int) : Prop where
  s0 : 0 ≤ s
  s1 : s < 2 ^ 2000
  t0 : 0 ≤ t
  t1 : t < 2147483648
  c0 : 0 ≤ c
  c1 : c ≤ m
def genL (s t c : Int) : HO := .lst [.int s, .int t, .int c]
/-- a draw below a bound: the generator's list at a is another one; the index grows by a hundred at most -/
def spRandom : Sp := fun vs H Q _ => ∃ (a : Addr) (b s t c m : Int), vs = [.ref a, .int b] ∧ H a = some (genL s t c) ∧ GenOk s t c m ∧ m + 100 < 4294967296 ∧ 0 < b ∧ b < 2 ^ 2000 ∧
  ∀ (r s' c' : Int), 0 ≤ r → r < b → GenOk s' t c' (m + 100) → Q (.int r) (upd H a (genL s' t c'))
theorem bits_le_of {b : Int} {n : Nat} (h0 : 0 ≤ b) (h : b < 2 ^ n) : Builtin.Int.intBits b ≤ n := PyProof.Rows.intBits_le (nlt h0 h)
theorem ok_law_random (T : Tx K mg) : FnG P w K mg base CX0 2 T.a_law_random T.d_law_random ["_law_generator_here", "_law_bound"] spRandom := by
  have G_law_hash := ok_law_hash (P := P) (w := w) (base := base) T
  refine bodyG0 T.F_law_random sc_law_random (fun vs H Q E h => ?_) (fun cdv A outer s H vs Q E gd hr h => ?_)
  · obtain ⟨a, b, s, t, c, m, rfl, _⟩ := h; rfl
  · obtain ⟨a, b, s, t, c, m, rfl, hg, ok, hm, b0, b1, q⟩ := h
    obtain ⟨s0, s1, t0, t1, c0, c1⟩ := ok
    have sq : SqL K H a [.int s, .int t, .int c] := .inl (.inl hg)
    refine ⟨_, (pss_cons (ps_if (pt_cmpR op_gt (pe_ix ix_list (pv 0) pe_int (fun _ _ => rfl)) pe_int (nomark _)) (pss_cons (ps_set (i := 2) sc_law_random.nd rfl (Or.inl rfl) (pe_op op_mod (pe_callTy call_int1 (by rfl) T.z_int (by decide +kernel) (pa_cons (pe_ix ix_list (pv 0) pe_int (fun _ _ => rfl)) pa_nil)) (pv 1)))
      (pss_cons (ps_asg (pe_op op_fdivW (pe_ix ix_list (pv 0) pe_int (fun _ _ => rfl)) (pv 1)) (pg_sub (pv 0) pe_int set_list))
      (pss_one (ps_ret (pv 2))))) pss_nil)
      (pss_cons (ps_set (i := 2) sc_law_random.nd rfl (Or.inl rfl) pe_int)
      (pss_cons (ps_for PassesOwn.never rfl (pi_range1 (by rfl) T.z_range (pa_cons (pe_op op_add pe_int (pe_op op_fdivW (pe_bits (pv 1)) pe_int)) pa_nil)) (pg_name (i := 3) sc_law_random.nd rfl (Or.inl rfl)) (pss_cons (ps_asg (pe_op op_add (pe_ix ix_list (pv 0) pe_int (fun _ _ => rfl)) pe_int) (pg_sub (pv 0) pe_int set_list))
      (pss_one (ps_set (i := 2) sc_law_random.nd rfl (Or.inl rfl) (pe_op op_add (pe_op op_mulX (pv 2) pe_int) (pe_g G_law_hash gd (hr.mono (by decide)) (by rfl) T.g_law_hash T.F_law_hash.kp T.b_law_hash .nil pass0 (pa_cons (pe_ix ix_list (pv 0) pe_int (fun _ _ => rfl)) (pa_cons (pe_ix ix_list (pv 0) pe_int (fun _ _ => rfl)) pa_nil))))))))
      (pss_one (ps_ret (pe_op op_mod (pe_callTy call_int1 (by rfl) T.z_int (by decide +kernel) (pa_cons (pv 2) pa_nil)) (pv 1))))))), ?_⟩
    refine ⟨_, rfl, _, _, _, _, rfl, rfl, sq, atI_nat (j := 0) rfl, _, _, rfl, rfl, _, rfl, ?_⟩
    by_cases hs : 0 < s
    · rw [decide_eq_true hs]
      refine iteT ⟨_, rfl, _, _, _, _, rfl, rfl, sq, atI_nat (j := 0) rfl, .inl ⟨_, rfl, _, rfl, _, _, rfl, rfl, b0, ?_⟩⟩
      refine ⟨_, rfl, _, _, _, _, rfl, rfl, sq, atI_nat (j := 0) rfl, _, rfl, _, _, rfl, rfl, wide_div b0 (nlt (Int.le_of_lt b0) b1) (by decide) (by decide), ?_⟩
      refine ⟨_, rfl, a, _, _, 0, rfl, rfl, hg, rfl, ?_⟩
      refine ⟨_, rfl, ?_⟩
      have d0 := Int.ediv_nonneg s0 (Int.le_of_lt b0)
      have d1 : s / b ≤ s := Int.ediv_le_self b s0
      exact q _ _ _ (Int.emod_nonneg _ (by omega)) (Int.emod_lt_of_pos _ b0) ⟨d0, by omega, t0, t1, c0, by omega⟩
    · rw [decide_eq_false hs]
      refine iteF ?_
      have hbits := bits_le_of (Int.le_of_lt b0) b1
      have hq : ((1 : Int) + (Builtin.Int.intBits b : Nat) / 30) = ((1 + Builtin.Int.intBits b / 30 : Nat) : Int) := by rw [Int.natCast_add, Int.natCast_ediv]; rfl
      refine ⟨_, rfl, b, rfl, _, _, rfl, rfl, wide_div (b := 5) (by decide) (by decide) (by decide) (by decide), _, _, rfl, rfl, ((1 + Builtin.Int.intBits b / 30 : Nat) : Int), by rw [← hq], by omega, by omega, ?_⟩
      refine for_range (n := 1 + Builtin.Int.intBits b / 30) (fun i σ H' => ∃ (d : Int) (y : Option V), σ = [some (.ref a), some (.int b), some (.int d), y] ∧ H' = upd H a (genL s t (c + i)) ∧ 0 ≤ d ∧ d < 2 ^ (31 * i)) ⟨0, none, rfl, ?_, by decide, by decide⟩ ?_ ?_
      · rw [show c + ((0 : Nat) : Int) = c by omega]
        funext x
        unfold upd
        by_cases hx : x = a
        · rw [if_pos hx, hx, hg]
        · rw [if_neg hx]
      · rintro i σ H' hi ⟨d, y, rfl, rfl, d0, d1⟩
        have up : (upd H a (genL s t (c + i))) a = some (genL s t (c + i)) := upd_same
        have sq1 : SqL K (upd H a (genL s t (c + i))) a [.int s, .int t, .int (c + i)] := .inl (.inl up)
        refine ⟨_, rfl, _, _, _, _, rfl, rfl, sq1, atI_nat (j := 2) rfl, _, _, rfl, rfl, _, rfl, a, _, _, 2, rfl, rfl, up, rfl, ?_⟩
        have up2 : (upd (upd H a (genL s t (c + i))) a (.lst ([V.int s, .int t, .int (c + i)].set 2 (.int (c + i + 1))))) a = some (genL s t (c + i + 1)) := upd_same
        have sq2 : SqL K (upd (upd H a (genL s t (c + i))) a (.lst ([V.int s, .int t, .int (c + i)].set 2 (.int (c + i + 1))))) a [.int s, .int t, .int (c + i + 1)] := .inl (.inl up2)
        refine ⟨_, rfl, _, _, rfl, rfl, mulx_ok (nlt d0 d1) (b := 31) (by decide) (by omega), ?_⟩
        refine ⟨_, rfl, _, _, _, _, rfl, rfl, sq2, atI_nat (j := 1) rfl, _, rfl, _, _, _, _, rfl, rfl, sq2, atI_nat (j := 2) rfl, _, _, rfl, t0, t1, by omega, by omega, fun r r0 r1 => ⟨_, _, rfl, rfl, ?_⟩⟩
        refine ⟨d * 2147483587 + r, _, rfl, ?_, by omega, ?_⟩
        · rw [show c + ((i + 1 : Nat) : Int) = c + i + 1 by omega]
          exact upd_upd
        · have e : (2 : Int) ^ (31 * (i + 1)) = 2 ^ (31 * i) * 2147483648 := by
            rw [Nat.mul_add, Int.pow_add]; rfl
          have p : (1 : Int) ≤ 2 ^ (31 * i) := Int.pow_pos (by decide)
          rw [e]
          generalize (2 : Int) ^ (31 * i) = B at d1 p
          omega
      · rintro σ H' ⟨d, y, rfl, rfl, d0, d1⟩
        refine ⟨_, rfl, .inl ⟨_, rfl, _, rfl, _, _, rfl, rfl, b0, ?_⟩⟩
        exact q _ _ _ (Int.emod_nonneg _ (by omega)) (Int.emod_lt_of_pos _ b0) ⟨s0, s1, t0, t1, by omega, by omega⟩

theorem same_new {H : Hp} {p : Addr} {o : HO} (h : H p = none) : Same H (upd H p o) := fun b x e => by
  rw [upd_ne (ne_of_none e h)]
  exact e
theorem cut_first {α : Type} (f : α → V) (xs : List α) : cutV (xs.map f) none (some 1) = (xs.take 1).map f := by
  unfold cutV
  rw [HT.sIx_none, show HT.sIx (xs.map f).length (xs.map f).length (some 1) = min 1 (xs.map f).length from HT.sIx_nat _ _ 1]
  cases xs with
  | nil => rfl
  | cons x r =>
    rw [show min 1 ((x :: r).map f).length = 1 by rw [List.length_map, List.length_cons]; omega]
    rfl
def spCell (K : PySem.W.Frag) : Sp := fun vs H Q _ => ∃ (a : Addr) (ns : List Int) (j : Nat), vs = [.ref a, .int j] ∧ SqL K H a (ns.map V.int) ∧ ∀ (r : Int) (H' : Hp), Same H H' → Q (.int r) H'
theorem ok_law_cell (T : Tx K mg) : FnG P w K mg base CX0 1 T.a_law_cell T.d_law_cell ["_law_script", "_law_index"] (spCell K) := by
  refine bodyG0 T.F_law_cell sc_law_cell (fun vs H Q E h => ?_) (fun cdv A outer s H vs Q E gd hr h => ?_)
  · obtain ⟨a, ns, j, rfl, _⟩ := h; rfl
  · obtain ⟨a, ns, j, rfl, hS, q⟩ := h
    refine ⟨_, (pss_cons (ps_if (pt_cmpR op_lt (pv 1) (pe_callB call_len_seq (by rfl) T.z_len (by decide +kernel) (pa_cons (pv 0) pa_nil)) (nomark _)) (pss_one (ps_ret (pe_ix ix_list (pv 0) (pv 1) (fun _ _ => rfl)))) pss_nil)
      (pss_one (ps_ret (pe_op op_mod (pe_callB (cr_sum rfl) (by rfl) T.z_sum (by decide +kernel) (pa_cons (pe_slice sl_list (pv 0) po_none (po_some pe_int)) pa_nil)) pe_int)))), ?_⟩
    refine ⟨_, rfl, _, rfl, a, _, rfl, .inl hS, _, _, rfl, rfl, _, rfl, ?_⟩
    by_cases hj : ((j : Nat) : Int) < ((ns.map V.int).length : Nat)
    · rw [decide_eq_true hj]
      have hj2 : j < ns.length := by rw [List.length_map] at hj; omega
      refine iteT ⟨_, rfl, _, rfl, _, _, _, _, rfl, rfl, hS, atI_nat (j := j) (v := .int (ns[j])) ?_, q _ _ (Same.refl H)⟩
      rw [List.getElem?_map, List.getElem?_eq_getElem hj2]
      rfl
    · rw [decide_eq_false hj]
      refine iteF ⟨_, rfl, 1, rfl, a, _, rfl, hS, fun p hp => ?_⟩
      refine ⟨p, ns.take 1, rfl, .inl (.inl ?_), _, _, rfl, rfl, (by decide : (0 : Int) < 1000003), q _ _ (same_new hp)⟩
      rw [upd_same, cut_first]
def spGenerator (K : PySem.W.Frag) : Sp := fun vs H Q _ => ∃ (a : Addr) (ns : List Int) (j : Nat), vs = [.ref a, .int j] ∧ j ≤ 1000 ∧ SqL K H a (ns.map V.int) ∧
  ∀ (g : Addr) (H' : Hp) (s t c : Int), Same H H' → H g = none → H' g = some (genL s t c) → GenOk s t c (1000 * j) → Q (.ref g) H'
theorem ok_law_generator (T : Tx K mg) : FnG P w K mg base CX0 2 T.a_law_generator T.d_law_generator ["_law_script", "_law_index"] (spGenerator K) := by
  have G_law_cell := ok_law_cell (P := P) (w := w) (base := base) T
  refine bodyG0 T.F_law_generator sc_law_generator (fun vs H Q E h => ?_) (fun cdv A outer s H vs Q E gd hr h => ?_)
  · obtain ⟨a, ns, j, rfl, _⟩ := h; rfl
  · obtain ⟨a, ns, j, rfl, hj, hS, q⟩ := h
    refine ⟨_, (pss_cons (ps_set (i := 2) sc_law_generator.nd rfl (Or.inl rfl) (pe_g G_law_cell gd (hr.mono (by decide)) (by rfl) T.g_law_cell T.F_law_cell.kp T.b_law_cell .nil pass0 (pa_cons (pv 0) (pa_cons (pv 1) pa_nil))))
      (pss_one (ps_ret (pe_lst (pa_cons (pe_op op_mod (pe_callTy call_int1 (by rfl) T.z_int (by decide +kernel) (pa_cons (pe_callB (call_max2 rfl) (by rfl) T.z_max (by decide +kernel) (pa_cons (pe_op op_sub (pv 2) (pe_op op_powW pe_int pe_int)) (pa_cons pe_int pa_nil))) pa_nil)) (pe_op op_powW (pe_op op_powW pe_int pe_int) pe_int)) (pa_cons (pe_op op_mod (pe_callTy call_int1 (by rfl) T.z_int (by decide +kernel) (pa_cons (pv 2) pa_nil)) pe_int) (pa_cons (pe_op op_mulX pe_int (pv 1)) pa_nil))))))), ?_⟩
    refine ⟨_, rfl, _, rfl, a, ns, j, rfl, hS, fun r H' sm => ?_⟩
    have e10 : ((10 : Int) ^ 60).natAbs < 2 ^ 200 := by decide +kernel
    refine ⟨_, rfl, _, _, rfl, rfl, powW_ok (n := 4) (j := 18) (by decide) (by decide), _, _, rfl, rfl, _, _, rfl, .inl ⟨_, rfl, ?_⟩⟩
    refine ⟨_, _, rfl, rfl, powW_ok (n := 4) (j := 60) (by decide) (by decide), _, _, rfl, rfl, powW_ok (n := 200) (j := 10) e10 (by decide), _, _, rfl, rfl, (by decide +kernel : (0 : Int) < (10 ^ 60) ^ 10), ?_⟩
    refine ⟨_, rfl, .inl ⟨_, rfl, _, _, rfl, rfl, (by decide : (0 : Int) < 2147483647), ?_⟩⟩
    refine ⟨_, rfl, _, _, rfl, rfl, mulx_ok (a := 10) (b := 10) (by decide) (by omega) (by decide), by show 3 ≤ sizeLine; rw [sizeLine_eq]; decide, fun g hg => ?_⟩
    have big : ((10 : Int) ^ 60) ^ 10 < 2 ^ 2000 := by decide +kernel
    have m1 := Int.emod_lt_of_pos (if r - 10 ^ 18 < 0 then 0 else r - 10 ^ 18) (by decide +kernel : (0 : Int) < (10 ^ 60) ^ 10)
    refine q g _ _ _ _ (sm.trans (same_new hg)) (sm.free hg) upd_same ⟨Int.emod_nonneg _ (by decide +kernel), Int.lt_trans (Int.emod_lt_of_pos _ (by decide +kernel)) big, Int.emod_nonneg _ (by decide), Int.lt_trans (Int.emod_lt_of_pos _ (by decide)) (by decide), by omega, by omega⟩
end

section
variable {P : Program} {w : World} {K : PySem.W.Frag} {mg : Str → Option Value} {base : Heap}
def spWhole : Sp := fun vs H Q _ => ∃ i : Int, vs = [.int i] ∧ Q (.bl true) H
theorem ok_is_whole (T : Tx K mg) : FnG P w K mg base CX0 1 T.a_is_whole T.d_is_whole ["value"] spWhole := by
  refine bodyG0 T.F_is_whole sc_is_whole (fun vs H Q E h => ?_) (fun cdv A outer s H vs Q E gd hr h => ?_)
  · obtain ⟨i, rfl, _⟩ := h; rfl
  · obtain ⟨i, rfl, q⟩ := h
    refine ⟨_, (pss_one (ps_ret (pe_and (pe_callB call_isi (by rfl) T.z_isinstance (by decide +kernel) (pa_cons (pv 0) (pa_cons (pe_bltn (v := .ty "int") (by rfl) T.z_int (by decide +kernel) rfl) pa_nil))) (pe_one (pe_not (pe_callB call_isi (by rfl) T.z_isinstance (by decide +kernel) (pa_cons (pv 0) (pa_cons (pe_bltn (v := .ty "bool") (by rfl) T.z_bool (by decide +kernel) rfl) pa_nil)))))))), ?_⟩
    refine ⟨_, rfl, _, _, _, _, _, rfl, .ty "int", .base (.int i), kit_ty (r := true) (by decide +kernel), _, rfl, iteT ?_⟩
    exact ⟨_, rfl, _, _, _, _, _, rfl, .ty "bool", .base (.int i), kit_ty (r := false) (by decide +kernel), _, rfl, q⟩
def spCountTo : Sp := fun vs H Q _ => ∃ i m : Int, vs = [.int i, .int m] ∧ Q (.bl (decide (0 ≤ i) && decide (i ≤ m))) H
theorem ok_is_count_to (T : Tx K mg) : FnG P w K mg base CX0 2 T.a_is_count_to T.d_is_count_to ["value", "most"] spCountTo := by
  have G_is_whole := ok_is_whole (P := P) (w := w) (base := base) T
  refine bodyG0 T.F_is_count_to sc_is_count_to (fun vs H Q E h => ?_) (fun cdv A outer s H vs Q E gd hr h => ?_)
  · obtain ⟨i, m, rfl, _⟩ := h; rfl
  · obtain ⟨i, m, rfl, q⟩ := h
    refine ⟨_, (pss_one (ps_ret (pe_and (pe_g G_is_whole gd (hr.mono (by decide)) (by rfl) T.g_is_whole T.F_is_whole.kp T.b_is_whole .nil pass0 (pa_cons (pv 0) pa_nil)) (pe_one (pe_chain op_le op_le pe_int (pv 0) (pv 1)))))), ?_⟩
    refine ⟨_, rfl, i, rfl, _, rfl, iteT ?_⟩
    refine ⟨_, rfl, _, _, rfl, rfl, _, rfl, ?_⟩
    by_cases h0 : 0 ≤ i
    · rw [decide_eq_true h0] at q ⊢
      exact iteT ⟨_, rfl, _, _, rfl, rfl, q⟩
    · rw [decide_eq_false h0] at q ⊢
      exact iteF q
end

end K03

set_option Elab.async false
set_option linter.all false
set_option maxRecDepth 100000
set_option maxHeartbeats 4000000
namespace K03
open PySem PySem.Spec PyProof.Rows L2 Hw

/-! ### bits -/
/-- the lowest w bits of x -/
def bitL (w x : Nat) : List Int := (List.range w).map fun p => ((x / 2 ^ p % 2 : Nat) : Int)
/-- what bits are worth, from the place p on -/
def worthAt : Nat → List Int → Int
  | _, [] => 0
  | p, b :: r => b * 2 ^ p + worthAt (p + 1) r
def worth (l : List Int) : Int := worthAt 0 l
theorem worthAt_add : ∀ (l : List Int) (p : Nat) (b : Int), worthAt p (l ++ [b]) = worthAt p l + b * 2 ^ (p + l.length)
  | [], p, b => by
    show b * 2 ^ p + 0 = 0 + b * 2 ^ (p + 0)
    rw [Nat.add_zero]; omega
  | c :: r, p, b => by
    show c * 2 ^ p + worthAt (p + 1) (r ++ [b]) = c * 2 ^ p + worthAt (p + 1) r + b * 2 ^ (p + (r.length + 1))
    rw [worthAt_add r (p + 1) b, show p + 1 + r.length = p + (r.length + 1) by omega]; omega
theorem worth_add (l : List Int) (b : Int) : worth (l ++ [b]) = worth l + b * 2 ^ l.length := by
  have h := worthAt_add l 0 b
  rw [Nat.zero_add] at h
  exact h
theorem bitL_len (w x : Nat) : (bitL w x).length = w := by unfold bitL; rw [List.length_map, List.length_range]
theorem bitL_more (w x : Nat) : bitL (w + 1) x = bitL w x ++ [((x / 2 ^ w % 2 : Nat) : Int)] := by
  unfold bitL; rw [List.range_succ, List.map_append]; rfl
theorem worth_bitL (x : Nat) : ∀ w : Nat, worth (bitL w x) = ((x % 2 ^ w : Nat) : Int)
  | 0 => by rw [Nat.pow_zero, Nat.mod_one]; rfl
  | w + 1 => by
    rw [bitL_more, worth_add, worth_bitL x w, bitL_len, Nat.mod_pow_succ, Int.natCast_add, Int.natCast_mul, Int.natCast_pow, Int.mul_comm]; rfl
theorem bit01 (w x : Nat) : ∀ b ∈ bitL w x, b = 0 ∨ b = 1 := by
  intro b hb
  obtain ⟨p, _, rfl⟩ := List.mem_map.mp hb
  omega
section
variable {P : Program} {w : World} {K : PySem.W.Frag} {mg : Str → Option Value} {base : Heap}
def spBit : Sp := fun vs H Q _ => ∃ i : Int, vs = [.int i] ∧ (i = 0 ∨ i = 1) ∧ Q (.bl true) H
theorem ok_is_bit (T : Tx K mg) : FnG P w K mg base CX0 3 T.a_is_bit T.d_is_bit ["value"] spBit := by
  have G_is_count_to := ok_is_count_to (P := P) (w := w) (base := base) T
  refine bodyG0 T.F_is_bit sc_is_bit (fun vs H Q E h => ?_) (fun cdv A outer s H vs Q E gd hr h => ?_)
  · obtain ⟨i, rfl, _⟩ := h; rfl
  · obtain ⟨i, rfl, hi, q⟩ := h
    refine ⟨_, (pss_one (ps_ret (pe_g G_is_count_to gd (hr.mono (by decide)) (by rfl) T.g_is_count_to T.F_is_count_to.kp T.b_is_count_to .nil pass0 (pa_cons (pv 0) (pa_cons pe_int pa_nil))))), ?_⟩
    refine ⟨_, rfl, i, 1, rfl, ?_⟩
    rw [decide_eq_true (show 0 ≤ i by omega), decide_eq_true (show i ≤ 1 by omega)]
    exact q
def spWordOf : Sp := fun vs H Q _ => ∃ n x : Nat, vs = [.int n, .int x] ∧ n ≤ 64 ∧ x < 2 ^ n ∧ Q (.bl true) H
theorem ok_is_word_of (T : Tx K mg) : FnG P w K mg base CX0 3 T.a_is_word_of T.d_is_word_of ["width", "value"] spWordOf := by
  have G_is_count_to := ok_is_count_to (P := P) (w := w) (base := base) T
  refine bodyG0 T.F_is_word_of sc_is_word_of (fun vs H Q E h => ?_) (fun cdv A outer s H vs Q E gd hr h => ?_)
  · obtain ⟨n, x, rfl, _⟩ := h; rfl
  · obtain ⟨n, x, rfl, hn, hx, q⟩ := h
    refine ⟨_, (pss_one (ps_ret (pe_g G_is_count_to gd (hr.mono (by decide)) (by rfl) T.g_is_count_to T.F_is_count_to.kp T.b_is_count_to .nil pass0 (pa_cons (pv 1) (pa_cons (pe_op op_sub (pe_op op_shlW pe_int (pv 0)) pe_int) pa_nil))))), ?_⟩
    refine ⟨_, rfl, _, rfl, _, _, rfl, rfl, shl_ok (n := 1) (by decide) (by omega), _, _, rfl, rfl, _, _, rfl, ?_⟩
    have e : ((2 ^ n : Nat) : Int) = (2 : Int) ^ n := by rw [Int.natCast_pow]; rfl
    rw [decide_eq_true (show 0 ≤ (x : Int) by omega), decide_eq_true (show (x : Int) ≤ 1 * 2 ^ (n : Int).toNat - 1 by rw [Int.toNat_natCast, Int.one_mul]; omega)]
    exact q
def spCheckTo : Sp := fun vs H Q _ => ∃ n m : Int, vs = [.int n, .int m] ∧ 0 ≤ n ∧ n ≤ m ∧ Q .non H
theorem ok_check_width_to (T : Tx K mg) : FnG P w K mg base CX0 3 T.a_check_width_to T.d_check_width_to ["width", "most"] spCheckTo := by
  have G_is_count_to := ok_is_count_to (P := P) (w := w) (base := base) T
  refine bodyG0 T.F_check_width_to sc_check_width_to (fun vs H Q E h => ?_) (fun cdv A outer s H vs Q E gd hr h => ?_)
  · obtain ⟨n, m, rfl, _⟩ := h; rfl
  · obtain ⟨n, m, rfl, h0, h1, q⟩ := h
    refine ⟨_, (pss_one (ps_if (pt_not (pt_val (pe_g G_is_count_to gd (hr.mono (by decide)) (by rfl) T.g_is_count_to T.F_is_count_to.kp T.b_is_count_to .nil pass0 (pa_cons (pv 0) (pa_cons (pv 1) pa_nil))))) (pss_one ps_never) pss_nil)), ?_⟩
    refine ⟨_, rfl, _, rfl, n, m, rfl, ?_⟩
    rw [decide_eq_true h0, decide_eq_true h1]
    exact ⟨true, rfl, iteF q⟩
def spCheck : Sp := fun vs H Q _ => ∃ n : Nat, vs = [.int n] ∧ n ≤ 64 ∧ Q .non H
theorem ok_check_width (T : Tx K mg) : FnG P w K mg base CX0 4 T.a_check_width T.d_check_width ["width"] spCheck := by
  have G_check_width_to := ok_check_width_to (P := P) (w := w) (base := base) T
  refine bodyG0 T.F_check_width sc_check_width (fun vs H Q E h => ?_) (fun cdv A outer s H vs Q E gd hr h => ?_)
  · obtain ⟨n, rfl, _⟩ := h; rfl
  · obtain ⟨n, rfl, hn, q⟩ := h
    refine ⟨_, (pss_one (ps_expr (pe_g G_check_width_to gd (hr.mono (by decide)) (by rfl) T.g_check_width_to T.F_check_width_to.kp T.b_check_width_to .nil pass0 (pa_cons (pv 0) (pa_cons (C8.pe_gc (by rfl) T.c_MOST_WIDTH) pa_nil))))), ?_⟩
    exact ⟨_, rfl, n, 64, rfl, by omega, by omega, q⟩
def spBitsOf : Sp := fun vs H Q _ => ∃ n x : Nat, vs = [.int n, .int x] ∧ n ≤ 64 ∧ x < 2 ^ n ∧ ∀ p : Addr, H p = none → Q (.ref p) (upd H p (.lst ((bitL n x).map V.int)))
theorem ok_bits_of (T : Tx K mg) : FnG P w K mg base CX0 5 T.a_bits_of T.d_bits_of ["width", "word"] spBitsOf := by
  have G_check_width := ok_check_width (P := P) (w := w) (base := base) T
  have G_is_word_of := ok_is_word_of (P := P) (w := w) (base := base) T
  refine bodyG0 T.F_bits_of sc_bits_of (fun vs H Q E h => ?_) (fun cdv A outer s H vs Q E gd hr h => ?_)
  · obtain ⟨n, x, rfl, _⟩ := h; rfl
  · obtain ⟨n, x, rfl, hn, hx, q⟩ := h
    refine ⟨_, (pss_cons (ps_expr (pe_g G_check_width gd (hr.mono (by decide)) (by rfl) T.g_check_width T.F_check_width.kp T.b_check_width .nil pass0 (pa_cons (pv 0) pa_nil)))
      (pss_cons (ps_if (pt_not (pt_val (pe_g G_is_word_of gd (hr.mono (by decide)) (by rfl) T.g_is_word_of T.F_is_word_of.kp T.b_is_word_of .nil pass0 (pa_cons (pv 0) (pa_cons (pv 1) pa_nil))))) (pss_one ps_never) pss_nil)
      (pss_one (ps_ret (pe_lc (own := [("place", 2)]) (g := gName 2) (tt := tYes) rfl sc_bits_of.nd (pi_range1 (by rfl) T.z_range (pa_cons (pv 0) pa_nil)) (blkOk_by (N := ["width", "word", "place"]) (sc := defScope s_bits_of) (by decide +kernel)) (fun _ _ _ _ _ => (pg_name (i := 2) sc_bits_of.nd rfl (Or.inl rfl))) (fun _ _ _ _ _ => pts_nil) (fun _ _ _ _ _ => (pe_op op_and (pe_op op_shr (pv 1) (pv 2)) pe_int))))))), ?_⟩
    refine ⟨_, rfl, n, rfl, hn, _, rfl, _, rfl, n, x, rfl, hn, hx, true, rfl, iteF ?_⟩
    refine ⟨_, rfl, n, rfl, by omega, by omega, fun D hD => ?_⟩
    refine lc_range (lo := 0) (n := n) (fun i H' => H' = upd H D (.lst ((bitL i x).map V.int))) rfl ?_ ?_
    · rintro i H' hi rfl
      refine ⟨rfl, yes_if ?_⟩
      refine ⟨_, rfl, _, rfl, _, _, rfl, rfl, by omega, _, _, rfl, rfl, (bitL i x).map V.int, upd_same, by rw [List.length_map, bitL_len]; exact small1000 (by omega), ?_⟩
      dsimp only
      rw [upd_upd, bitL_more, List.map_append, bitAnd_m1, Int.zero_add, Int.toNat_natCast, Int.natCast_emod, Int.natCast_ediv, Int.natCast_pow]
      rfl
    · rintro H' rfl
      exact q D hD
def spWorth : Sp := fun vs H Q _ => ∃ (a : Addr) (l : List Int) (v : Int), vs = [.ref a] ∧ H a = some (.lst (l.map V.int)) ∧ l.length ≤ 64 ∧ (∀ b ∈ l, b = 0 ∨ b = 1) ∧ worth l = v ∧ ∀ H' : Hp, Same H H' → Q (.int v) H'
theorem ok_word_of_bits (T : Tx K mg) : FnG P w K mg base CX0 4 T.a_word_of_bits T.d_word_of_bits ["bits"] spWorth := by
  have G_is_bit := ok_is_bit (P := P) (w := w) (base := base) T
  refine bodyG0 T.F_word_of_bits sc_word_of_bits (fun vs H Q E h => ?_) (fun cdv A outer s H vs Q E gd hr h => ?_)
  · obtain ⟨a, l, v, rfl, _⟩ := h; rfl
  · obtain ⟨a, l, v, rfl, ha, hl, h01, rfl, q⟩ := h
    refine ⟨_, (pss_cons (ps_if (PW.pt (pw_or (pt_not (pt_val (pe_callB call_isi (by rfl) T.z_isinstance (by decide +kernel) (pa_cons (pv 0) (pa_cons (pe_bltn (v := .ty "list") (by rfl) T.z_list (by decide +kernel) rfl) pa_nil))))) (pw_or (pt_cmpR op_gt (pe_callB call_len_seq (by rfl) T.z_len (by decide +kernel) (pa_cons (pv 0) pa_nil)) (C8.pe_gc (by rfl) T.c_MOST_WIDTH) (nomark _)) (pw_or1 (pt_not (pt_val (pe_callB (cr_all rfl) (by rfl) T.z_all (by decide +kernel) (pa_cons (pe_lc (own := [("bit", 2)]) (g := gName 2) (tt := tYes) rfl sc_word_of_bits.nd (pi_list (pv 0)) (blkOk_by (N := ["bits", "place", "bit"]) (sc := defScope s_word_of_bits) (by decide +kernel)) (fun _ _ _ _ _ => (pg_name (i := 2) sc_word_of_bits.nd rfl (Or.inl rfl))) (fun _ _ _ _ _ => pts_nil) (fun _ _ _ _ _ => (pe_g G_is_bit gd (hr.mono (by decide)) (by rfl) T.g_is_bit T.F_is_bit.kp T.b_is_bit .nil pass0 (pa_cons (pv 2) pa_nil)))) pa_nil)))))))) (pss_one ps_never) pss_nil)
      (pss_one (ps_ret (pe_callB (cr_sum rfl) (by rfl) T.z_sum (by decide +kernel) (pa_cons (pe_lc (own := [("place", 1), ("bit", 2)]) (g := gTup K 2 (gCons (gName 1) (gCons (gName 2) gNil))) (tt := tYes) rfl sc_word_of_bits.nd (pi_enum (by rfl) T.z_enumerate (pa_cons (pv 0) pa_nil)) (blkOk_by (N := ["bits", "place", "bit"]) (sc := defScope s_word_of_bits) (by decide +kernel)) (fun _ _ _ _ _ => (pg_tup (by rfl) (pgs_cons (pg_name (i := 1) sc_word_of_bits.nd rfl (Or.inl rfl)) (pgs_cons (pg_name (i := 2) sc_word_of_bits.nd rfl (Or.inl rfl)) pgs_nil)))) (fun _ _ _ _ _ => pts_nil) (fun _ _ _ _ _ => (pe_op op_shlW (pv 2) (pv 1)))) pa_nil))))), ?_⟩
    have sq : SqL K H a (l.map V.int) := .inl (.inl ha)
    refine ⟨_, rfl, _, _, _, _, _, rfl, .ty "list", .base (.lst ha), kit_ty (r := true) (by decide +kernel), true, rfl, iteF ?_⟩
    refine ⟨_, rfl, _, _, rfl, .inl sq, _, _, rfl, rfl, _, rfl, ?_⟩
    rw [decide_eq_false (show ¬ (64 : Int) < (l.map V.int).length by rw [List.length_map]; omega)]
    refine iteF ⟨_, rfl, a, rfl, ⟨_, sq⟩, fun D hD => ?_⟩
    have sD : ∀ o, Same H (upd H D o) := fun o => same_new hD
    refine lc_list (K := K) (a := a) (xs := l.map V.int) (fun i H' => H' = upd H D (.lst (List.replicate i (V.bl true)))) rfl (fun i H' _ e => by rw [e]; exact (sD _).seq sq) ?_ ?_
    · rintro i x H' hi rfl
      obtain ⟨b, hb, rfl⟩ : ∃ b, l[i]? = some b ∧ V.int b = x := by
        rw [List.getElem?_map] at hi
        exact Option.map_eq_some_iff.mp hi
      have il : i < l.length := (List.getElem?_eq_some_iff.mp hb).1
      refine ⟨rfl, yes_if ?_⟩
      refine ⟨_, rfl, b, rfl, h01 b (List.mem_of_getElem? hb), _, upd_same, by rw [List.length_replicate]; exact small1000 (by omega), ?_⟩
      rw [upd_upd, List.replicate_succ']
    · rintro H' rfl
      refine ⟨D, List.replicate (l.map V.int).length true, rfl, .inl (.inl ?_), _, rfl, ?_⟩
      · rw [upd_same, List.map_replicate]
      · rw [show (List.replicate (l.map V.int).length true).all id = true by rw [List.all_eq_true]; intro x hx; exact List.eq_of_mem_replicate hx]
        refine iteF ?_
        generalize hH1 : upd H D (.lst (List.replicate (l.map V.int).length (V.bl true))) = H1
        have s1 : Same H H1 := hH1 ▸ sD _
        refine ⟨_, rfl, a, l.map V.int, rfl, s1.seq sq, fun D2 hD2 => ?_⟩
        have s2 : ∀ o, Same H1 (upd H1 D2 o) := fun o => same_new hD2
        refine lc_it walk_enum (fun i H' => Same H1 H' ∧ ∃ l2 : List Int, H' D2 = some (.lst (l2.map V.int)) ∧ l2.length = i ∧ l2.sum = worth (l.take i)) ⟨s2 _, [], upd_same, rfl, rfl⟩ (fun i H' _ e => (s1.trans e.1).seq sq) ?_ ?_
        · rintro i x H' H'' hi ⟨s3, l2, e2, len2, sum2⟩ ⟨T', x1, x2, rfl, hT, rfl, f1, f2⟩
          cases f1
          have f2 : (l.map V.int)[i]? = some x2 := f2
          obtain ⟨b, hb, rfl⟩ : ∃ b, l[i]? = some b ∧ V.int b = x2 := by
            rw [List.getElem?_map] at f2
            exact Option.map_eq_some_iff.mp f2
          have il : i < l.length := (List.getElem?_eq_some_iff.mp hb).1
          refine ⟨T', [.int i, .int b], rfl, .inl (.inl upd_same), rfl, _, _, rfl, _, _, rfl, rfl, ?_⟩
          have b1 : b.natAbs < 2 ^ 1 := by rcases h01 b (List.mem_of_getElem? hb) with e | e <;> rw [e] <;> decide
          have nD : D2 ≠ T' := ne_of_none e2 hT
          refine ⟨rfl, yes_if ?_⟩
          refine ⟨_, rfl, _, rfl, _, _, rfl, rfl, shl_ok b1 (by omega), l2.map V.int, by rw [upd_ne nD]; exact e2, by rw [List.length_map]; exact small1000 (by omega), ?_⟩
          refine ⟨fun c o ec => ?_, l2 ++ [b * 2 ^ i], ?_, by rw [List.length_append]; show l2.length + 1 = i + 1; omega, ?_⟩
          · have nc : c ≠ D2 := ne_of_none ec hD2
            rw [upd_ne nc]
            exact (same_new hT) c o (s3 c o ec)
          · rw [upd_same, List.map_append]
            dsimp only
            rw [Int.toNat_natCast]
            rfl
          · rw [List.sum_append, sum2, List.take_add_one, hb]
            show worth (l.take i) + (b * 2 ^ i + 0) = worth (l.take i ++ [b])
            rw [worth_add, List.length_take, Nat.min_eq_left (by omega), Int.add_zero]
        · rintro H' ⟨s3, l2, e2, len2, sum2⟩
          rw [List.length_map, List.take_length] at sum2
          refine ⟨D2, l2, rfl, .inl (.inl e2), ?_⟩
          rw [sum2]
          exact q H' (s1.trans s3)
def spTwo : Sp := fun vs H Q _ => ∃ n : Nat, vs = [.int n] ∧ n ≤ 1000 ∧ Q (.int ((2 ^ n : Nat) : Int)) H
theorem ok_law_two (T : Tx K mg) : FnG P w K mg base CX0 1 T.a_law_two T.d_law_two ["_law_many"] spTwo := by
  refine bodyG0 T.F_law_two sc_law_two (fun vs H Q E h => ?_) (fun cdv A outer s H vs Q E gd hr h => ?_)
  · obtain ⟨n, rfl, _⟩ := h; rfl
  · obtain ⟨n, rfl, hn, q⟩ := h
    refine ⟨_, (pss_one (ps_ret (pe_op op_shlW pe_int (pe_callTy call_int1 (by rfl) T.z_int (by decide +kernel) (pa_cons (pv 0) pa_nil))))), ?_⟩
    refine ⟨_, rfl, .inl ⟨_, rfl, _, _, rfl, rfl, shl_ok (n := 1) (by decide) (by omega), ?_⟩⟩
    dsimp only
    rw [Int.toNat_natCast, Int.one_mul]
    rw [Int.natCast_pow] at q
    exact q
end

end K03

set_option Elab.async false
set_option linter.all false
set_option maxRecDepth 100000
set_option maxHeartbeats 4000000
namespace K03
open PySem PySem.Spec PyProof.Rows L2 Hw

section
variable {P : Program} {w : World} {K : PySem.W.Frag} {mg : Str → Option Value} {base : Heap}
theorem GenOk.up {s t c m m' : Int} (o : GenOk s t c m) (h : m ≤ m') : GenOk s t c m' := ⟨o.s0, o.s1, o.t0, o.t1, o.c0, Int.le_trans o.c1 h⟩
theorem niceBits (n x : Nat) (h : n ≤ 64) : Nice (.list ((bitL n x).map PyData.int)) := Nice.listInt (fun y hy => by rcases bit01 n x y hy with e | e <;> rw [e] <;> decide) (by rw [bitL_len]; omega)
theorem word38 {n x : Nat} (hn : n ≤ 64) (hx : x < 2 ^ n) : ((x : Int)).natAbs < 10 ^ 38 := by
  have h : 2 ^ n ≤ 2 ^ 64 := Nat.pow_le_pow_right (by decide) hn
  have e : (2 : Nat) ^ 64 < 10 ^ 38 := by decide
  omega
def wordsV (ws : List Nat) : List V := ws.map fun (x : Nat) => V.int (x : Int)
theorem ite_ne {d : PyData} {A B : Prop} (h : Nice d) (b : B) : if (!PyData.eqv d d) = true then A else B := by
  rw [h.refl]
  exact iteF b
theorem worthIs {n x : Nat} (hx : x < 2 ^ n) : worth (bitL n x) = (x : Int) := by rw [worth_bitL, Nat.mod_eq_of_lt hx]
theorem half_at (x j : Nat) : x / 2 ^ j / 2 = x / 2 ^ (j + 1) := by rw [Nat.div_div_eq_div_mul, Nat.pow_succ]
def spRight : Sp := fun vs H Q _ => ∃ (a : Addr) (s t c m : Int), vs = [.ref a] ∧ H a = some (genL s t c) ∧ GenOk s t c m ∧ m ≤ 10000 ∧ ∀ H' : Hp, SameX a H H' → Q (.bl true) H'
theorem ok_law_right (T : Tx K mg) : FnG P w K mg base CX0 6 T.a_law_right T.d_law_right ["_law_generator_here"] spRight := by
  have G_law_random := ok_law_random (P := P) (w := w) (base := base) T
  have G_law_two := ok_law_two (P := P) (w := w) (base := base) T
  have G_bits_of := ok_bits_of (P := P) (w := w) (base := base) T
  have G_word_of_bits := ok_word_of_bits (P := P) (w := w) (base := base) T
  refine bodyG0 T.F_law_right sc_law_right (fun vs H Q E h => ?_) (fun cdv A outer s H vs Q E gd hr h => ?_)
  · obtain ⟨a, s, t, c, m, rfl, _⟩ := h; rfl
  · obtain ⟨a, s, t, c, m, rfl, hg, ok, hm, q⟩ := h
    refine ⟨_, (pss_cons (ps_set (i := 1) sc_law_right.nd rfl (Or.inr rfl) (pe_ix ix_list (pe_lst (pa_cons (pe_g G_law_random gd (hr.mono (by decide)) (by rfl) T.g_law_random T.F_law_random.kp T.b_law_random .nil pass0 (pa_cons (pv 0) (pa_cons pe_int pa_nil))) (pa_cons (pe_g G_law_random gd (hr.mono (by decide)) (by rfl) T.g_law_random T.F_law_random.kp T.b_law_random .nil pass0 (pa_cons (pv 0) (pa_cons pe_int pa_nil))) pa_nil))) (pe_g G_law_random gd (hr.mono (by decide)) (by rfl) T.g_law_random T.F_law_random.kp T.b_law_random .nil pass0 (pa_cons (pv 0) (pa_cons pe_int pa_nil))) (fun _ _ => rfl)))
      (C8.pss_cut (ps_set (i := 2) sc_law_right.nd rfl (Or.inl rfl) (pe_ifExp (pt_cmpR op_lt (pv 1) pe_int (nomark _)) (pe_listRg rfl (by rfl) T.z_list (prg_1 (by rfl) T.z_range (pe_g G_law_two gd (hr.mono (by decide)) (by rfl) T.g_law_two T.F_law_two.kp T.b_law_two .nil pass0 (pa_cons (pv 1) pa_nil)))) (pe_lc (own := [("_law_turn", 8)]) (g := gName 8) (tt := tYes) rfl sc_law_right.nd (pi_range1 (by rfl) T.z_range (pa_cons pe_int pa_nil)) (blkOk_by (N := ["_law_generator_here", "_law_width_there", "_law_words", "_law_word_there", "_law_due", "_law_left", "_law_place", "_law_told", "_law_turn"]) (sc := defScope s_law_right) (by decide +kernel)) (fun _ _ _ _ _ => (pg_name (i := 8) sc_law_right.nd rfl (Or.inl rfl))) (fun _ _ _ _ _ => pts_nil) (fun _ _ _ _ _ => (pe_g G_law_random gd (hr.mono (by decide)) (by rfl) T.g_law_random T.F_law_random.kp T.b_law_random .nil pass0 (pa_cons (pv 0) (pa_cons (pe_g G_law_two gd (hr.mono (by decide)) (by rfl) T.g_law_two T.F_law_two.kp T.b_law_two .nil pass0 (pa_cons (pv 1) pa_nil)) pa_nil)))))))
      (pss_cons (ps_for PassesOwn.never rfl (pi_list (pv 2)) (pg_name (i := 3) sc_law_right.nd rfl (Or.inl rfl)) (pss_cons (ps_par (i := 4) (j := 5) rfl sc_law_right.nd rfl rfl (by decide) rfl rfl (pa_cons (pe_lst pa_nil) (pa_cons (pv 3) pa_nil)) (by rfl))
      (pss_cons (ps_for PassesOwn.never rfl (pi_range1 (by rfl) T.z_range (pa_cons (pv 1) pa_nil)) (pg_name (i := 6) sc_law_right.nd rfl (Or.inl rfl)) (pss_one (ps_par (i := 4) (j := 5) rfl sc_law_right.nd rfl rfl (by decide) rfl rfl (pa_cons (pe_op op_cat (pv 4) (pe_lst (pa_cons (pe_op op_sub (pv 5) (pe_op op_mulX pe_int (pe_op op_fdivW (pv 5) pe_int))) pa_nil))) (pa_cons (pe_op op_fdivW (pv 5) pe_int) pa_nil)) (by rfl))))
      (pss_cons (ps_set (i := 7) sc_law_right.nd rfl (Or.inl rfl) (pe_g G_bits_of gd (hr.mono (by decide)) (by rfl) T.g_bits_of T.F_bits_of.kp T.b_bits_of .nil pass0 (pa_cons (pv 1) (pa_cons (pv 3) pa_nil))))
      (pss_cons (ps_if (PW.pt (pw_or (pt_cmpR op_ne (pe_callB (call_reprD gd hr.units) (by rfl) T.z_repr (by decide +kernel) (pa_cons (pv 7) pa_nil)) (pe_callB (call_reprD gd hr.units) (by rfl) T.z_repr (by decide +kernel) (pa_cons (pv 4) pa_nil)) (nomark _)) (pw_or1 (pt_cmpR (op_neD hr.units) (pe_gk G_bits_of gd (hr.mono (by decide)) (by rfl) T.g_bits_of T.F_bits_of.kp T.w_bits_of_word_width pass0 (pk_cons (pv 3) (pk_cons (pv 1) pk_nil))) (pv 4) (nomark _))))) (pss_one (ps_ret pe_bl)) pss_nil)
      (pss_cons (ps_if (PW.pt (pw_or (pt_cmpR op_ne (pe_callB (call_reprD gd hr.units) (by rfl) T.z_repr (by decide +kernel) (pa_cons (pe_g G_word_of_bits gd (hr.mono (by decide)) (by rfl) T.g_word_of_bits T.F_word_of_bits.kp T.b_word_of_bits .nil pass0 (pa_cons (pv 7) pa_nil)) pa_nil)) (pe_callB (call_reprD gd hr.units) (by rfl) T.z_repr (by decide +kernel) (pa_cons (pv 3) pa_nil)) (nomark _)) (pw_or (pt_cmpR op_ne (pe_gk G_word_of_bits gd (hr.mono (by decide)) (by rfl) T.g_word_of_bits T.F_word_of_bits.kp T.w_word_of_bits_bits pass0 (pk_cons (pv 4) pk_nil)) (pv 3) (nomark _)) (pw_or1 (pt_cmpR (op_neD hr.units) (pv 7) (pv 4) (nomark _)))))) (pss_one (ps_ret pe_bl)) pss_nil)
      (pss_cons (ps_expr (pe_bm PySem.F.plainAttrs_list PySem.F.slot_list_append PySem.F.type_list_append mt_append (pv 7) (pa_cons pe_non pa_nil)))
      (pss_cons (ps_if (pt_cmpR (op_neD hr.units) (pe_g G_bits_of gd (hr.mono (by decide)) (by rfl) T.g_bits_of T.F_bits_of.kp T.b_bits_of .nil pass0 (pa_cons (pv 1) (pa_cons (pv 3) pa_nil))) (pv 4) (nomark _)) (pss_one (ps_ret pe_bl)) pss_nil)
      (pss_one (ps_if (PW.pt (pw_and (pt_cmpR op_lt (pv 1) pe_int (nomark _)) (pw_and1 (PW.pt (pw_or (pt_cmpR op_ne (pe_g G_word_of_bits gd (hr.mono (by decide)) (by rfl) T.g_word_of_bits T.F_word_of_bits.kp T.b_word_of_bits .nil pass0 (pa_cons (pe_op op_cat (pv 4) (pe_lst (pa_cons pe_int pa_nil))) pa_nil)) (pv 3) (nomark _)) (pw_or1 (pt_cmpR op_ne (pe_g G_word_of_bits gd (hr.mono (by decide)) (by rfl) T.g_word_of_bits T.F_word_of_bits.kp T.b_word_of_bits .nil pass0 (pa_cons (pe_op op_cat (pv 4) (pe_lst (pa_cons pe_int pa_nil))) pa_nil)) (pe_op op_add (pv 3) (pe_g G_law_two gd (hr.mono (by decide)) (by rfl) T.g_law_two T.F_law_two.kp T.b_law_two .nil pass0 (pa_cons (pv 1) pa_nil))) (nomark _)))))))) (pss_one (ps_ret pe_bl)) pss_nil))))))))))
      (pss_one (ps_ret pe_bl))))), ?_⟩
    -- the width
    refine ⟨_, rfl, a, 6, s, t, c, m, rfl, hg, ok, by omega, by decide, by decide, fun r1 s1 c1 r10 r11 ok1 => ?_⟩
    refine ⟨_, rfl, a, 65, s1, t, c1, m + 100, rfl, upd_same, ok1, by omega, by decide, by decide, fun r2 s2 c2 r20 r21 ok2 => ?_⟩
    refine ⟨by show 2 ≤ sizeLine; rw [sizeLine_eq]; decide, fun p hp => ?_⟩
    rw [upd_upd] at hp ⊢
    have pa : p ≠ a := fun e => by rw [e, upd_same] at hp; cases hp
    refine ⟨_, rfl, a, 2, s2, t, c2, m + 100 + 100, rfl, by rw [upd_ne pa.symm]; exact upd_same, ok2, by omega, by decide, by decide, fun r3 s3 c3 r30 r31 ok3 => ?_⟩
    have x3 : SameX a H (upd (upd (upd H a (genL s2 t c2)) p (.lst [.int r1, .int r2])) a (genL s3 t c3)) :=
      (SameX.upd.trans (SameX.of (same_new hp))).trans SameX.upd
    have g3 : (upd (upd (upd H a (genL s2 t c2)) p (.lst [.int r1, .int r2])) a (genL s3 t c3)) a = some (genL s3 t c3) := upd_same
    have l3 : (upd (upd (upd H a (genL s2 t c2)) p (.lst [.int r1, .int r2])) a (genL s3 t c3)) p = some (.lst [.int r1, .int r2]) := by rw [upd_ne pa]; exact upd_same
    generalize (upd (upd (upd H a (genL s2 t c2)) p (.lst [.int r1, .int r2])) a (genL s3 t c3)) = H3 at x3 g3 l3
    obtain ⟨n, hn, hat⟩ : ∃ n : Nat, n ≤ 64 ∧ atI [V.int r1, V.int r2] r3 = some (.int n) := by
      rcases (show r3 = 0 ∨ r3 = 1 by omega) with e | e
      · rw [e]; exact ⟨r1.toNat, by omega, by rw [Int.toNat_of_nonneg r10]; rfl⟩
      · rw [e]; exact ⟨r2.toNat, by omega, by rw [Int.toNat_of_nonneg r20]; rfl⟩
    refine ⟨p, _, r3, _, rfl, rfl, .inl (.inl l3), hat, ?_⟩
    -- the words: they stand at p2, all below 2 ^ n
    refine ⟨fun σ' H4 => ∃ (p2 : Addr) (ws : List Nat) (y8 : Option V), σ' = [some (.ref a), some (.int n), some (.ref p2), none, none, none, none, none, y8] ∧ SameX a H H4 ∧ H4 p2 = some (.lst (wordsV ws)) ∧ p2 ≠ a ∧ (∀ x ∈ ws, x < 2 ^ n) ∧ ws.length ≤ 64, ?_, ?_⟩
    · refine ⟨_, rfl, _, _, rfl, rfl, _, rfl, ?_⟩
      by_cases h6 : (n : Int) < 6
      · rw [decide_eq_true h6]
        have n5 : n ≤ 5 := by omega
        have n32 : 2 ^ n ≤ 2 ^ 5 := Nat.pow_le_pow_right (by decide) n5
        refine iteT ⟨_, rfl, n, rfl, by omega, _, rfl, .of_le (by decide) (Int.le_trans (Int.ofNat_le.mpr n32) (by decide)) (by decide) (Int.natCast_nonneg _), fun p2 hp2 => ?_⟩
        have pa2 : p2 ≠ a := fun e => by rw [e, g3] at hp2; cases hp2
        refine ⟨p2, List.range (2 ^ n), none, rfl, x3.trans (SameX.of (same_new hp2)), ?_, pa2, fun x hx => List.mem_range.mp hx, by rw [List.length_range]; omega⟩
        rw [upd_same]
        unfold rgV wordsV
        rw [Int.sub_zero, Int.toNat_natCast]
        simp only [Int.zero_add]
      · rw [decide_eq_false h6]
        refine iteF ⟨6, rfl, by decide, by decide, fun p2 hp2 => ?_⟩
        have pa2 : p2 ≠ a := fun e => by rw [e, g3] at hp2; cases hp2
        refine lc_range (lo := 0) (n := 6) (fun i H' => ∃ (s' c' : Int) (ws : List Nat), SameX a H H' ∧ H' a = some (genL s' t c') ∧ GenOk s' t c' (m + 100 + 100 + 100 + 100 * i) ∧ H' p2 = some (.lst (wordsV ws)) ∧ (∀ x ∈ ws, x < 2 ^ n) ∧ ws.length = i) ?_ ?_ ?_
        · refine ⟨s3, c3, [], x3.trans (SameX.of (same_new hp2)), by rw [upd_ne pa2.symm]; exact g3, ok3.up (by omega), upd_same, fun x hx => (nomatch hx), rfl⟩
        · rintro i H' hi ⟨s', c', ws, sx, ga, go, gp, gw, gl⟩
          refine ⟨rfl, yes_if ?_⟩
          have big : ((2 ^ n : Nat) : Int) < 2 ^ 2000 := by
            have h1 : (2 : Nat) ^ n ≤ 2 ^ 64 := Nat.pow_le_pow_right (by decide) hn
            have h2 : ((2 ^ 64 : Nat) : Int) < 2 ^ 2000 := by decide +kernel
            omega
          have pos : 0 < (2 : Nat) ^ n := Nat.two_pow_pos n
          refine ⟨_, rfl, _, rfl, n, rfl, by omega, a, ((2 ^ n : Nat) : Int), s', t, c', _, rfl, ga, go, by omega, by omega, big, fun r s'' c'' r0 r1 go' => ?_⟩
          refine ⟨wordsV ws, by rw [upd_ne pa2]; exact gp, by unfold wordsV; rw [List.length_map]; exact small1000 (by omega), ?_⟩
          refine ⟨s'', c'', ws ++ [r.toNat], fun b o nb hb => ?_, by rw [upd_ne pa2.symm]; exact upd_same, go'.up (by omega), ?_, ?_, by rw [List.length_append, gl]; rfl⟩
          · rw [upd_ne (ne_of_none (x3 b o nb hb) hp2)]
            exact (sx.trans SameX.upd) b o nb hb
          · rw [upd_same]
            unfold wordsV
            rw [List.map_append]
            show some (HO.lst (_ ++ [V.int r])) = some (HO.lst (_ ++ [V.int ((r.toNat : Nat) : Int)]))
            rw [Int.toNat_of_nonneg r0]
          · intro x hx
            rcases List.mem_append.mp hx with h | h
            · exact gw x h
            · have e : x = r.toNat := List.mem_singleton.mp h
              omega
        · rintro H' ⟨s', c', ws, sx, ga, go, gp, gw, gl⟩
          exact ⟨p2, ws, _, rfl, sx, gp, pa2, gw, by omega⟩
    · rintro σ' H4 ⟨p2, ws, y8, rfl, x4, l4, pa2, hw, hl⟩
      have fresh : ∀ {H5 : Hp} {q : Addr}, SameX a H H5 → H5 q = none → Same H5 H5 := fun _ _ => Same.refl _
      refine ⟨_, rfl, p2, rfl, ⟨_, .inl (.inl l4)⟩, for_list (K := K) (a := p2) (xs := wordsV ws) (fun i σ H' => ∃ y3 y4 y5 y6 y7 : Option V, σ = [some (.ref a), some (.int n), some (.ref p2), y3, y4, y5, y6, y7, y8] ∧ SameX a H H' ∧ H' p2 = some (.lst (wordsV ws)))
        ⟨none, none, none, none, none, rfl, x4, l4⟩ (fun i σ H' _ ⟨_, _, _, _, _, _, _, e⟩ => .inl (.inl e)) ?_ ?_⟩
      · rintro i y σ H5 hi ⟨y3, y4, y5, y6, y7, rfl, x5, l5⟩
        obtain ⟨x, hxi, rfl⟩ : ∃ x : Nat, ws[i]? = some x ∧ V.int (x : Int) = y := by
          unfold wordsV at hi
          rw [List.getElem?_map] at hi
          exact Option.map_eq_some_iff.mp hi
        have hx : x < 2 ^ n := hw x (List.mem_of_getElem? hxi)
        have nb := niceBits n x hn
        have nx := Nice.int (word38 hn hx)
        refine ⟨Nat.zero_le _, fun d hd => ⟨_, rfl, _, _, rfl, ?_⟩⟩
        -- the due bits
        refine ⟨_, rfl, n, rfl, by omega, by omega, for_range (n := n) (fun j σ H6 => ∃ (dd : Addr) (y6 : Option V), σ = [some (.ref a), some (.int n), some (.ref p2), some (.int x), some (.ref dd), some (.int ((x / 2 ^ j : Nat) : Int)), y6, y7, y8] ∧ Same H5 H6 ∧ H6 dd = some (.lst ((bitL j x).map V.int)))
          ⟨d, y6, by rw [Nat.pow_zero, Nat.div_one]; rfl, same_new hd, upd_same⟩ ?_ ?_⟩
        · rintro j σ H6 hj ⟨dd, z6, rfl, s6, ld⟩
          refine ⟨_, rfl, _, rfl, _, rfl, _, _, rfl, rfl, wide_div (b := 2) (by decide) (by decide) (by decide) (by decide), _, _, rfl, rfl, mulx_ok (a := 2) (b := 64) (by decide) ?_ (by decide), _, _, rfl, rfl, by show 1 ≤ sizeLine; rw [sizeLine_eq]; decide, fun e he => ?_⟩
          · have h1 : x / 2 ^ j ≤ x := Nat.div_le_self _ _
            have h2 : 2 ^ n ≤ 2 ^ 64 := Nat.pow_le_pow_right (by decide) hn
            generalize x / 2 ^ j = z at h1 ⊢
            have h3 : z < 2 ^ 64 := by omega
            show ((z : Int) / 2).natAbs < 2 ^ 64
            omega
          · have de : dd ≠ e := ne_of_none ld he
            refine ⟨dd, e, _, _, rfl, rfl, by rw [upd_ne de]; exact ld, upd_same, ?_, fun f hf => ?_⟩
            · rw [List.length_map, bitL_len]
              show j + 1 ≤ sizeLine
              rw [sizeLine_eq]; omega
            · refine ⟨_, rfl, _, _, rfl, rfl, wide_div (b := 2) (by decide) (by decide) (by decide) (by decide), _, _, rfl, f, some (.int (0 + (j : Int))), ?_, (s6.trans (same_new he)).trans (same_new hf), ?_⟩
              · rw [← half_at, Int.natCast_ediv (x / 2 ^ j) 2]
                rfl
              · rw [upd_same, bitL_more, List.map_append]
                show some (HO.lst (_ ++ [V.int (((x / 2 ^ j : Nat) : Int) - 2 * (((x / 2 ^ j : Nat) : Int) / 2))])) = some (HO.lst (_ ++ [V.int ((x / 2 ^ j % 2 : Nat) : Int)]))
                rw [show ((x / 2 ^ j : Nat) : Int) - 2 * (((x / 2 ^ j : Nat) : Int) / 2) = ((x / 2 ^ j % 2 : Nat) : Int) by omega]
        · rintro σ H6 ⟨dd, z6, rfl, s6, ld⟩
          -- told
          refine ⟨_, rfl, _, rfl, n, x, rfl, hn, hx, fun tp htp => ?_⟩
          have dt : dd ≠ tp := ne_of_none ld htp
          have t5 : H5 tp = none := s6.free htp
          have s7 : Same H5 (upd H6 tp (.lst ((bitL n x).map V.int))) := s6.trans (same_new htp)
          have ld7 : (upd H6 tp (.lst ((bitL n x).map V.int))) dd = some (.lst ((bitL n x).map V.int)) := by rw [upd_ne dt]; exact ld
          have lt7 : (upd H6 tp (.lst ((bitL n x).map V.int))) tp = some (.lst ((bitL n x).map V.int)) := upd_same
          generalize (upd H6 tp (.lst ((bitL n x).map V.int))) = H7 at s7 ld7 lt7
          refine ⟨_, rfl, _, _, rfl, dp_int (.inl (.inl lt7)), nb, _, rfl, _, _, rfl, dp_int (.inl (.inl ld7)), nb, rfl, _, rfl, iteNS rfl ?_⟩
          refine ⟨_, rfl, _, rfl, rfl, n, x, rfl, hn, hx, fun u hu => ?_⟩
          have s8 := s7.trans (same_new (o := .lst ((bitL n x).map V.int)) hu)
          have ld8 : (upd H7 u (.lst ((bitL n x).map V.int))) dd = some (.lst ((bitL n x).map V.int)) := same_new hu _ _ ld7
          have lt8 : (upd H7 u (.lst ((bitL n x).map V.int))) tp = some (.lst ((bitL n x).map V.int)) := same_new hu _ _ lt7
          have lu8 : (upd H7 u (.lst ((bitL n x).map V.int))) u = some (.lst ((bitL n x).map V.int)) := upd_same
          generalize (upd H7 u (.lst ((bitL n x).map V.int))) = H8 at s8 ld8 lt8 lu8
          refine ⟨_, rfl, _, _, dp_int (.inl (.inl lu8)), dp_int (.inl (.inl ld8)), nb.shaped, nb.shaped, _, rfl, ite_ne nb ?_⟩
          -- back from the bits
          have wl : (bitL n x).length ≤ 64 := by rw [bitL_len]; exact hn
          refine ⟨_, rfl, tp, _, x, rfl, lt8, wl, bit01 n x, worthIs hx, fun H9 e9 => ⟨_, _, rfl, .int _, nx, _, rfl, _, _, rfl, .int _, nx, rfl, _, rfl, iteNS rfl ?_⟩⟩
          have ld9 := e9 _ _ ld8
          have lt9 := e9 _ _ lt8
          have s9 := s8.trans e9
          refine ⟨_, rfl, rfl, dd, _, x, rfl, ld9, wl, bit01 n x, worthIs hx, fun H10 e10 => ⟨_, rfl, rfl, _, rfl, iteNS rfl ?_⟩⟩
          have ld10 := e10 _ _ ld9
          have lt10 := e10 _ _ lt9
          have s10 := s9.trans e10
          refine ⟨_, rfl, _, rfl, _, _, dp_int (.inl (.inl lt10)), dp_int (.inl (.inl ld10)), nb.shaped, nb.shaped, _, rfl, ite_ne nb ?_⟩
          -- told is changed; it was new
          refine ⟨_, rfl, .inl ⟨rfl, _, .inl (.inl lt10)⟩, tp, _, _, rfl, rfl, lt10, by rw [List.length_map, bitL_len]; exact small1000 (by omega), ?_⟩
          have s11 : Same H5 (upd H10 tp (.lst ((bitL n x).map V.int ++ [.non]))) := fun b o hb => by rw [upd_ne (ne_of_none hb t5)]; exact s10 b o hb
          have ld11 : (upd H10 tp (.lst ((bitL n x).map V.int ++ [.non]))) dd = some (.lst ((bitL n x).map V.int)) := by rw [upd_ne dt]; exact ld10
          generalize (upd H10 tp (.lst ((bitL n x).map V.int ++ [.non]))) = H11 at s11 ld11
          refine ⟨_, rfl, _, rfl, n, x, rfl, hn, hx, fun u2 hu2 => ?_⟩
          have s12 := s11.trans (same_new (o := .lst ((bitL n x).map V.int)) hu2)
          have ld12 : (upd H11 u2 (.lst ((bitL n x).map V.int))) dd = some (.lst ((bitL n x).map V.int)) := same_new hu2 _ _ ld11
          have lu12 : (upd H11 u2 (.lst ((bitL n x).map V.int))) u2 = some (.lst ((bitL n x).map V.int)) := upd_same
          generalize (upd H11 u2 (.lst ((bitL n x).map V.int))) = H12 at s12 ld12 lu12
          refine ⟨_, rfl, _, _, dp_int (.inl (.inl lu12)), dp_int (.inl (.inl ld12)), nb.shaped, nb.shaped, _, rfl, ite_ne nb ?_⟩
          -- one place more
          have fin : ∀ {H' : Hp} {z7 : Option V}, Same H5 H' → ∃ y3 y4 y5 y6 y7 : Option V, [some (V.ref a), some (.int n), some (.ref p2), some (.int x), some (.ref dd), some (.int ((x / 2 ^ n : Nat) : Int)), z6, some (.ref tp), y8] = [some (.ref a), some (.int n), some (.ref p2), y3, y4, y5, y6, y7, y8] ∧ SameX a H H' ∧ H' p2 = some (.lst (wordsV ws)) :=
            fun e => ⟨_, _, _, _, _, rfl, x5.trans (SameX.of e), e _ _ l5⟩
          refine ⟨_, rfl, _, _, rfl, rfl, _, rfl, ?_⟩
          by_cases h64 : (n : Int) < 64
          · rw [decide_eq_true h64]
            have wl1 : ∀ b : Int, (bitL n x ++ [b]).length ≤ 64 := fun b => by rw [List.length_append, bitL_len]; show n + 1 ≤ 64; omega
            refine iteT ?_
            refine ⟨_, rfl, by show 1 ≤ sizeLine; rw [sizeLine_eq]; decide, fun e he => ?_⟩
            have s13 := s12.trans (same_new (o := .lst [.int 0]) he)
            have ld13 := same_new (o := .lst [.int 0]) he _ _ ld12
            have le13 : (upd H12 e (.lst [.int 0])) e = some (.lst [.int 0]) := upd_same
            refine ⟨dd, e, _, _, rfl, rfl, ld13, le13, by rw [List.length_map, bitL_len]; show n + 1 ≤ sizeLine; rw [sizeLine_eq]; omega, fun f hf => ?_⟩
            have s14 := s13.trans (same_new (o := .lst ((bitL n x).map V.int ++ [.int 0])) hf)
            have ld14 := same_new (o := .lst ((bitL n x).map V.int ++ [.int 0])) hf _ _ ld13
            refine ⟨f, bitL n x ++ [0], x, rfl, by rw [upd_same, List.map_append]; rfl, wl1 0, ?_, by rw [worth_add, worthIs hx]; omega, fun H15 e15 => ⟨_, rfl, rfl, _, rfl, iteNS rfl ?_⟩⟩
            · intro b hb
              rcases List.mem_append.mp hb with h | h
              · exact bit01 n x b h
              · exact .inl (List.mem_singleton.mp h)
            have s15 := s14.trans e15
            have ld15 := e15 _ _ ld14
            refine ⟨_, rfl, by show 1 ≤ sizeLine; rw [sizeLine_eq]; decide, fun e2 he2 => ?_⟩
            have s16 := s15.trans (same_new (o := .lst [.int 1]) he2)
            have ld16 := same_new (o := .lst [.int 1]) he2 _ _ ld15
            have le16 : (upd H15 e2 (.lst [.int 1])) e2 = some (.lst [.int 1]) := upd_same
            refine ⟨dd, e2, _, _, rfl, rfl, ld16, le16, by rw [List.length_map, bitL_len]; show n + 1 ≤ sizeLine; rw [sizeLine_eq]; omega, fun f2 hf2 => ?_⟩
            have s17 := s16.trans (same_new (o := .lst ((bitL n x).map V.int ++ [.int 1])) hf2)
            refine ⟨f2, bitL n x ++ [1], (x : Int) + ((2 ^ n : Nat) : Int), rfl, by rw [upd_same, List.map_append]; rfl, wl1 1, ?_, by rw [worth_add, worthIs hx, bitL_len, Int.one_mul, Int.natCast_pow]; rfl, fun H18 e18 => ⟨_, rfl, _, rfl, n, rfl, by omega, _, _, rfl, rfl, rfl, _, rfl, iteNS rfl ?_⟩⟩
            · intro b hb
              rcases List.mem_append.mp hb with h | h
              · exact bit01 n x b h
              · exact .inr (List.mem_singleton.mp h)
            exact fin (z7 := none) (s17.trans e18)
          · rw [decide_eq_false h64]
            exact iteF (fin (z7 := none) s12)
      · rintro σ H5 ⟨y3, y4, y5, y6, y7, rfl, x5, l5⟩
        exact q H5 x5
end

end K03

set_option Elab.async false
set_option linter.all false
set_option maxRecDepth 100000
set_option maxHeartbeats 4000000
namespace K03
open PySem PySem.Spec PyProof.Rows L2 Hw

section
variable {P : Program} {w : World} {K : PySem.W.Frag} {mg : Str → Option Value} {base : Heap}
theorem iteEq {x : V} {A B : Prop} (h : A) : if decide (x = x) = true then A else B := by
  rw [decide_eq_true rfl]
  exact iteT h
def spLaw (K : PySem.W.Frag) : Sp := fun vs H Q _ => ∃ (a : Addr) (ns : List Int), vs = [.ref a] ∧ ns.length ≤ 63 ∧ SqL K H a (ns.map V.int) ∧ ∀ H' : Hp, Q (.bl true) H'
theorem ok_law (T : Tx K mg) : FnG P w K mg base CX0 7 T.a_law T.d_law ["_law_script"] (spLaw K) := by
  have G_law_generator := ok_law_generator (P := P) (w := w) (base := base) T
  have G_law_right := ok_law_right (P := P) (w := w) (base := base) T
  have G_bits_of := ok_bits_of (P := P) (w := w) (base := base) T
  have G_word_of_bits := ok_word_of_bits (P := P) (w := w) (base := base) T
  refine bodyG0 T.F_law sc_law (fun vs H Q E h => ?_) (fun cdv A outer s H vs Q E gd hr h => ?_)
  · obtain ⟨a, ns, rfl, _⟩ := h; rfl
  · obtain ⟨a, ns, rfl, _, hS, q⟩ := h
    refine ⟨_, (pss_cons (ps_for PassesOwn.never rfl (pi_range1 (by rfl) T.z_range (pa_cons pe_int pa_nil)) (pg_name (i := 1) sc_law.nd rfl (Or.inl rfl)) (pss_one (ps_if (pt_not (pt_val (pe_g G_law_right gd (hr.mono (by decide)) (by rfl) T.g_law_right T.F_law_right.kp T.b_law_right .nil pass0 (pa_cons (pe_g G_law_generator gd (hr.mono (by decide)) (by rfl) T.g_law_generator T.F_law_generator.kp T.b_law_generator .nil pass0 (pa_cons (pv 0) (pa_cons (pv 1) pa_nil))) pa_nil)))) (pss_one (ps_ret pe_bl)) pss_nil)))
      (pss_one (ps_ret (pe_and (pe_cmpR (op_eqD hr.units) (pe_g G_bits_of gd (hr.mono (by decide)) (by rfl) T.g_bits_of T.F_bits_of.kp T.b_bits_of .nil pass0 (pa_cons pe_int (pa_cons pe_int pa_nil))) (pe_lst pa_nil) (nomark _)) (pe_and (pe_cmpR op_eq (pe_g G_word_of_bits gd (hr.mono (by decide)) (by rfl) T.g_word_of_bits T.F_word_of_bits.kp T.b_word_of_bits .nil pass0 (pa_cons (pe_lst pa_nil) pa_nil)) pe_int (nomark _)) (pe_and (pe_cmpR op_eq (pe_g G_word_of_bits gd (hr.mono (by decide)) (by rfl) T.g_word_of_bits T.F_word_of_bits.kp T.b_word_of_bits .nil pass0 (pa_cons (pe_op op_rep (pe_lst (pa_cons pe_int pa_nil)) pe_int) pa_nil)) (pe_op op_sub (pe_op op_powW pe_int pe_int) pe_int) (nomark _)) (pe_one (pe_cmpR (op_eqD hr.units) (pe_g G_bits_of gd (hr.mono (by decide)) (by rfl) T.g_bits_of T.F_bits_of.kp T.b_bits_of .nil pass0 (pa_cons pe_int (pa_cons (pe_op op_powW pe_int pe_int) pa_nil))) (pe_op op_cat (pe_op op_rep (pe_lst (pa_cons pe_int pa_nil)) pe_int) (pe_lst (pa_cons pe_int pa_nil))) (nomark _))))))))), ?_⟩
    refine ⟨3, rfl, by decide, by decide, for_range (n := 3) (fun i σ H' => ∃ y : Option V, σ = [some (.ref a), y] ∧ SqL K H' a (ns.map V.int)) ⟨none, rfl, hS⟩ ?_ ?_⟩
    · rintro i σ H1 hi ⟨y, rfl, s1⟩
      refine ⟨_, rfl, _, rfl, a, ns, i, by rw [Int.zero_add]; rfl, by omega, s1, fun g H2 s t c e2 ng g2 go => ?_⟩
      refine ⟨g, s, t, c, _, rfl, g2, go, by omega, fun H3 x3 => ⟨true, rfl, iteF ⟨_, rfl, (x3.same e2 ng).seq s1⟩⟩⟩
    · rintro σ H1 ⟨y, rfl, s1⟩
      refine ⟨0, 0, rfl, by decide, by decide, fun p hp => ⟨Nat.zero_le _, fun p2 hp2 => ?_⟩⟩
      have n1 : p ≠ p2 := ne_of_none upd_same hp2
      refine ⟨.list [], .list [], .lst (xs := []) (.inl (.inl (by rw [upd_ne n1]; exact upd_same))) .nil, .lst (xs := []) (.inl (.inl upd_same)) .nil, by decide, by decide, _, rfl, iteT ?_⟩
      refine ⟨Nat.zero_le _, fun p3 hp3 => ⟨p3, [], 0, rfl, upd_same, by decide, fun b hb => (nomatch hb), rfl, fun H4 _ => ⟨rfl, _, rfl, iteEq ?_⟩⟩⟩
      refine ⟨by show 1 ≤ sizeLine; rw [sizeLine_eq]; decide, fun p5 hp5 => ⟨p5, 64, _, rfl, rfl, upd_same, by decide, by decide, by show 1 * 64 ≤ sizeLine; rw [sizeLine_eq]; decide, fun p6 hp6 => ?_⟩⟩
      refine ⟨p6, List.replicate 64 1, 2 ^ (64 : Int).toNat - 1, rfl, by rw [upd_same]; rfl, by decide, fun b hb => .inr (List.eq_of_mem_replicate hb), by decide +kernel, fun H7 _ => ?_⟩
      refine ⟨_, _, rfl, rfl, powW_ok (n := 2) (j := 64) (by decide) (by decide), _, _, rfl, rfl, rfl, _, rfl, iteEq ?_⟩
      refine ⟨_, _, rfl, rfl, powW_ok (n := 2) (j := 63) (by decide) (by decide), 64, 2 ^ 63, congrArg (fun z => [V.int 64, V.int z]) (by decide +kernel : ((2 : Int) ^ (63 : Int).toNat) = ((2 ^ 63 : Nat) : Int)), by decide, by decide, fun p8 hp8 => ?_⟩
      have l8 : (upd H7 p8 (.lst ((bitL 64 (2 ^ 63)).map V.int))) p8 = some (.lst ((bitL 64 (2 ^ 63)).map V.int)) := upd_same
      generalize (upd H7 p8 (.lst ((bitL 64 (2 ^ 63)).map V.int))) = H8 at l8
      refine ⟨by show 1 ≤ sizeLine; rw [sizeLine_eq]; decide, fun p9 hp9 => ⟨p9, 63, _, rfl, rfl, upd_same, by decide, by decide, by show 1 * 63 ≤ sizeLine; rw [sizeLine_eq]; decide, fun p10 hp10 => ?_⟩⟩
      have l10 : (upd (upd H8 p9 (.lst [.int 0])) p10 (.lst (List.replicate (63 : Int).toNat [V.int 0]).flatten)) p10 = some (.lst ((List.replicate 63 (0 : Int)).map V.int)) := by rw [upd_same]; rfl
      have m10 := same_new (o := .lst (List.replicate (63 : Int).toNat [V.int 0]).flatten) hp10 _ _ (same_new (o := .lst [.int 0]) hp9 _ _ l8)
      generalize (upd (upd H8 p9 (.lst [.int 0])) p10 (.lst (List.replicate (63 : Int).toNat [V.int 0]).flatten)) = H10 at l10 m10
      refine ⟨by show 1 ≤ sizeLine; rw [sizeLine_eq]; decide, fun p11 hp11 => ?_⟩
      refine ⟨p10, p11, _, _, rfl, rfl, same_new hp11 _ _ l10, upd_same, by show 64 ≤ sizeLine; rw [sizeLine_eq]; decide, fun p12 hp12 => ?_⟩
      have nb := niceBits 64 (2 ^ 63) (by decide)
      have m12 := same_new (o := .lst ((List.replicate 63 (0 : Int)).map V.int ++ [V.int 1])) hp12 _ _ (same_new (o := .lst [.int 1]) hp11 _ _ m10)
      refine ⟨_, _, dp_int (.inl (.inl m12)), dp_int (l := bitL 64 (2 ^ 63)) (.inl (.inl ?_)), nb.shaped, nb.shaped, ?_⟩
      · rw [upd_same]
        have e : bitL 64 (2 ^ 63) = List.replicate 63 0 ++ [1] := by decide +kernel
        rw [e, List.map_append]
        rfl
      · rw [nb.refl]
        exact q _
end

end K03

set_option Elab.async false
set_option linter.all false
set_option maxRecDepth 100000
set_option maxHeartbeats 0
/-! ### the end -/
namespace K03E
open PySem PySem.Spec PyProof.Rows L2 Hw K03
def d_is_whole : He.DefD := ⟨("is_whole", none), "is_whole", "is_whole", defArgs s_is_whole, defBody s_is_whole, defScope s_is_whole, [], []⟩
def d_is_count_to : He.DefD := ⟨("is_count_to", none), "is_count_to", "is_count_to", defArgs s_is_count_to, defBody s_is_count_to, defScope s_is_count_to, [], []⟩
def d_is_bit : He.DefD := ⟨("is_bit", none), "is_bit", "is_bit", defArgs s_is_bit, defBody s_is_bit, defScope s_is_bit, [], []⟩
def d_is_word_of : He.DefD := ⟨("is_word_of", none), "is_word_of", "is_word_of", defArgs s_is_word_of, defBody s_is_word_of, defScope s_is_word_of, [], []⟩
def d_check_width : He.DefD := ⟨("check_width", none), "check_width", "check_width", defArgs s_check_width, defBody s_check_width, defScope s_check_width, [], []⟩
def d_check_width_to : He.DefD := ⟨("check_width_to", none), "check_width_to", "check_width_to", defArgs s_check_width_to, defBody s_check_width_to, defScope s_check_width_to, [], []⟩
def d_bits_of : He.DefD := ⟨("bits_of", none), "bits_of", "bits_of", defArgs s_bits_of, defBody s_bits_of, defScope s_bits_of, [], []⟩
def d_word_of_bits : He.DefD := ⟨("word_of_bits", none), "word_of_bits", "word_of_bits", defArgs s_word_of_bits, defBody s_word_of_bits, defScope s_word_of_bits, [], []⟩
def d_law_hash : He.DefD := ⟨("_law_hash", none), "_law_hash", "_law_hash", defArgs s_law_hash, defBody s_law_hash, defScope s_law_hash, [], []⟩
def d_law_random : He.DefD := ⟨("_law_random", none), "_law_random", "_law_random", defArgs s_law_random, defBody s_law_random, defScope s_law_random, [], []⟩
def d_law_cell : He.DefD := ⟨("_law_cell", none), "_law_cell", "_law_cell", defArgs s_law_cell, defBody s_law_cell, defScope s_law_cell, [], []⟩
def d_law_generator : He.DefD := ⟨("_law_generator", none), "_law_generator", "_law_generator", defArgs s_law_generator, defBody s_law_generator, defScope s_law_generator, [], []⟩
def d_law_two : He.DefD := ⟨("_law_two", none), "_law_two", "_law_two", defArgs s_law_two, defBody s_law_two, defScope s_law_two, [], []⟩
def d_law_right : He.DefD := ⟨("_law_right", none), "_law_right", "_law_right", defArgs s_law_right, defBody s_law_right, defScope s_law_right, [], []⟩
def d_law : He.DefD := ⟨("law", none), "law", "law", defArgs s_law, defBody s_law, defScope s_law, [], []⟩
def fn : List He.DefD := [d_is_whole, d_is_count_to, d_is_bit, d_is_word_of, d_check_width, d_check_width_to, d_bits_of, d_word_of_bits, d_law_hash, d_law_random, d_law_cell, d_law_generator, d_law_two, d_law_right, d_law]
def fa : List He.Fa := [.glo "is_whole", .glo "is_count_to", .glo "is_bit", .glo "is_word_of", .glo "check_width", .glo "check_width_to", .glo "bits_of", .glo "word_of_bits", .glo "_law_hash", .glo "_law_random", .glo "_law_cell", .glo "_law_generator", .glo "_law_two", .glo "_law_right", .glo "law", .free "all", .free "bool", .free "enumerate", .free "int", .free "isinstance", .free "len", .free "list", .free "max", .free "range", .free "repr", .free "sum", .int "MOST_WIDTH" 64]
abbrev R : PySem.W.OpenRow := PySem.W.OpenLaw.row PySem.Challenge.rw_howeverwide_k03_whole_bits
abbrev hk : PySem.W.Hook := He.hookD 4 fa fn
def ob (s : PySem.W.SharedT) : He.AlD := He.obsDG 4 fa fn (HandSHeadRun.getT s)
theorem ob_eq (s : PySem.W.SharedT) : ob s = hk.obs s.abs := He.obsDG_eq (HandSHeadRun.getT_eq s)
def loose0 : List PySem.Str := ["ClaimError", "InvalidNumber", "InvalidWidth", "InvalidWord", "MOST_WIDTH", "is_whole", "is_count_to", "is_bit", "is_word_of", "check_width", "check_width_to", "bits_of", "word_of_bits", "_law_hash", "_law_random", "_law_cell", "_law_generator", "_law_two", "_law_right"]
def loose : List PySem.Str := loose0
theorem run (w : World) : HandSHeadRun.RunEq R (PySem.W.view R.prog [23]) hk ob 4000 loose w := by
  intro os
  kernel_rfl
theorem facts {P : Program} {w : World} {K : PySem.W.Frag} {h : Heap} {mg : Str → Option Value} {f : Addr} (X : K.In h) (G : h.Ns mainGlobals mg) (hfa : mg ("law" : Str) = some (.ref f)) (c : He.SaysD fa fn K) :
    ∃ fd : FuncData, (∀ (s : Shared) (v : Value), BindsTo s fd ⟨[v], []⟩ [("_law_script", v)]) ∧ ∀ base : Heap, K.In base → base.Ns mainGlobals mg → FnG P w K mg base CX0 7 f fd ["_law_script"] (spLaw K) := by
  obtain ⟨e_is_whole, F_is_whole⟩ := c.def_ 0 (d := d_is_whole) rfl
  obtain ⟨e_is_count_to, F_is_count_to⟩ := c.def_ 1 (d := d_is_count_to) rfl
  obtain ⟨e_is_bit, F_is_bit⟩ := c.def_ 2 (d := d_is_bit) rfl
  obtain ⟨e_is_word_of, F_is_word_of⟩ := c.def_ 3 (d := d_is_word_of) rfl
  obtain ⟨e_check_width, F_check_width⟩ := c.def_ 4 (d := d_check_width) rfl
  obtain ⟨e_check_width_to, F_check_width_to⟩ := c.def_ 5 (d := d_check_width_to) rfl
  obtain ⟨e_bits_of, F_bits_of⟩ := c.def_ 6 (d := d_bits_of) rfl
  obtain ⟨e_word_of_bits, F_word_of_bits⟩ := c.def_ 7 (d := d_word_of_bits) rfl
  obtain ⟨e_law_hash, F_law_hash⟩ := c.def_ 8 (d := d_law_hash) rfl
  obtain ⟨e_law_random, F_law_random⟩ := c.def_ 9 (d := d_law_random) rfl
  obtain ⟨e_law_cell, F_law_cell⟩ := c.def_ 10 (d := d_law_cell) rfl
  obtain ⟨e_law_generator, F_law_generator⟩ := c.def_ 11 (d := d_law_generator) rfl
  obtain ⟨e_law_two, F_law_two⟩ := c.def_ 12 (d := d_law_two) rfl
  obtain ⟨e_law_right, F_law_right⟩ := c.def_ 13 (d := d_law_right) rfl
  obtain ⟨e_law, F_law⟩ := c.def_ 14 (d := d_law) rfl
  have g_is_whole := He.glo_ok X G (c.fact 0 (f := .glo "is_whole") rfl)
  have g_is_count_to := He.glo_ok X G (c.fact 1 (f := .glo "is_count_to") rfl)
  have g_is_bit := He.glo_ok X G (c.fact 2 (f := .glo "is_bit") rfl)
  have g_is_word_of := He.glo_ok X G (c.fact 3 (f := .glo "is_word_of") rfl)
  have g_check_width := He.glo_ok X G (c.fact 4 (f := .glo "check_width") rfl)
  have g_check_width_to := He.glo_ok X G (c.fact 5 (f := .glo "check_width_to") rfl)
  have g_bits_of := He.glo_ok X G (c.fact 6 (f := .glo "bits_of") rfl)
  have g_word_of_bits := He.glo_ok X G (c.fact 7 (f := .glo "word_of_bits") rfl)
  have g_law_hash := He.glo_ok X G (c.fact 8 (f := .glo "_law_hash") rfl)
  have g_law_random := He.glo_ok X G (c.fact 9 (f := .glo "_law_random") rfl)
  have g_law_cell := He.glo_ok X G (c.fact 10 (f := .glo "_law_cell") rfl)
  have g_law_generator := He.glo_ok X G (c.fact 11 (f := .glo "_law_generator") rfl)
  have g_law_two := He.glo_ok X G (c.fact 12 (f := .glo "_law_two") rfl)
  have g_law_right := He.glo_ok X G (c.fact 13 (f := .glo "_law_right") rfl)
  have g_law := He.glo_ok X G (c.fact 14 (f := .glo "law") rfl)
  have i_MOST_WIDTH : ∃ u, mg "MOST_WIDTH" = some u ∧ RelV (.int 64) u := by
    obtain ⟨t, q⟩ := He.int_ok X G (c.fact 26 (f := .int "MOST_WIDTH" 64) rfl)
    exact ⟨_, q, t, rfl⟩
  have e := hfa.symm.trans g_law
  cases e
  let T : Tx K mg := { a_is_whole := _, d_is_whole := e_is_whole, F_is_whole := F_is_whole, g_is_whole := g_is_whole, a_is_count_to := _, d_is_count_to := e_is_count_to, F_is_count_to := F_is_count_to, g_is_count_to := g_is_count_to, a_is_bit := _, d_is_bit := e_is_bit, F_is_bit := F_is_bit, g_is_bit := g_is_bit, a_is_word_of := _, d_is_word_of := e_is_word_of, F_is_word_of := F_is_word_of, g_is_word_of := g_is_word_of, a_check_width := _, d_check_width := e_check_width, F_check_width := F_check_width, g_check_width := g_check_width, a_check_width_to := _, d_check_width_to := e_check_width_to, F_check_width_to := F_check_width_to, g_check_width_to := g_check_width_to, a_bits_of := _, d_bits_of := e_bits_of, F_bits_of := F_bits_of, g_bits_of := g_bits_of, a_word_of_bits := _, d_word_of_bits := e_word_of_bits, F_word_of_bits := F_word_of_bits, g_word_of_bits := g_word_of_bits, a_law_hash := _, d_law_hash := e_law_hash, F_law_hash := F_law_hash, g_law_hash := g_law_hash, a_law_random := _, d_law_random := e_law_random, F_law_random := F_law_random, g_law_random := g_law_random, a_law_cell := _, d_law_cell := e_law_cell, F_law_cell := F_law_cell, g_law_cell := g_law_cell, a_law_generator := _, d_law_generator := e_law_generator, F_law_generator := F_law_generator, g_law_generator := g_law_generator, a_law_two := _, d_law_two := e_law_two, F_law_two := F_law_two, g_law_two := g_law_two, a_law_right := _, d_law_right := e_law_right, F_law_right := F_law_right, g_law_right := g_law_right, a_law := _, d_law := e_law, F_law := F_law, g_law := g_law, z_all := He.free_ok X G (c.fact 15 (f := .free "all") rfl), z_bool := He.free_ok X G (c.fact 16 (f := .free "bool") rfl), z_enumerate := He.free_ok X G (c.fact 17 (f := .free "enumerate") rfl), z_int := He.free_ok X G (c.fact 18 (f := .free "int") rfl), z_isinstance := He.free_ok X G (c.fact 19 (f := .free "isinstance") rfl), z_len := He.free_ok X G (c.fact 20 (f := .free "len") rfl), z_list := He.free_ok X G (c.fact 21 (f := .free "list") rfl), z_max := He.free_ok X G (c.fact 22 (f := .free "max") rfl), z_range := He.free_ok X G (c.fact 23 (f := .free "range") rfl), z_repr := He.free_ok X G (c.fact 24 (f := .free "repr") rfl), z_sum := He.free_ok X G (c.fact 25 (f := .free "sum") rfl), c_MOST_WIDTH := i_MOST_WIDTH }
  have b := FunD.bindsA (ps := ["_law_script"]) F_law fun _ _ _ _ _ _ us hl => match us, hl with | [_], _ => rfl
  exact ⟨e_law, fun s v => b s [v] rfl, fun base _ _ => ok_law T⟩
end K03E
open PySem PySem.W PySem.Calls PyProof.Rows
set_option maxRecDepth 100000 in
set_option maxHeartbeats 0 in
theorem PySem.Challenge.cw_howeverwide_k03_whole_bits_holds : PySem.Challenge.rw_howeverwide_k03_whole_bits.Holds := by
  w_on; o_law
  refine HandSHeadRun.head_any (r := OpenLaw.row PySem.Challenge.rw_howeverwide_k03_whole_bits) (q := view (OpenLaw.row PySem.Challenge.rw_howeverwide_k03_whole_bits).prog [23]) (H := K03E.hk) (ob := K03E.ob) (M := 4000) (loose := K03E.loose) (d := HandSHeadRun.topDef (OpenLaw.row PySem.Challenge.rw_howeverwide_k03_whole_bits).prog 23) (kwd := []) K03E.ob_eq
    (by kernel_rfl) (fun s => by kernel_rfl) K03E.run (by kernel_rfl) (by kernel_rfl) (by kernel_rfl) (by rfl) (by first | assumption | decide +kernel) (by decide +kernel) ⟨rfl, rfl, rfl, rfl, rfl, by decide +kernel⟩ ?hw ?hc
  case hw => w_witness2
  case hc =>
    refine Hw.walkG (l := PySem.Challenge.rw_howeverwide_k03_whole_bits) (n := 63) (k := 7) (x := "_law_script") rfl (by decide) (by kernel_rfl) ⟨rfl, by decide, by decide⟩ ?F
    intro w mg fa h Y G hmg0
    obtain ⟨K, KX, c⟩ := Y
    have hmg : mg ("law" : PySem.Str) = some (.ref fa) := by
      have e : (HandSHeadRun.topDef (OpenLaw.row PySem.Challenge.rw_howeverwide_k03_whole_bits).prog 23).name = ("law" : PySem.Str) := by kernel_rfl
      rw [← e]
      exact hmg0
    obtain ⟨fd, hb, hF⟩ := K03E.facts (P := (PySem.Challenge.rw_howeverwide_k03_whole_bits).prog) (w := w) KX G hmg c
    exact ⟨K, fd, K03.spLaw K, KX, hb, fun H a ns hl _ hS => ⟨a, ns, rfl, hl, hS, fun _ => rfl⟩, hF⟩
