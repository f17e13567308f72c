import PyProof.Rows.All
import Wide.All
import OpenK.AllK
import Wide.FinOn
import PyProof.ReprRoads
import HandS.Base
import HandS.Call
import HandS.List
import HandS.Comp
import HandS.Ends
import HandS.Words
import HandS.Wide
import HandS.WideBits
import HandS.IsInst
import HandS.Defaults
import HandS.Flow
import HandS.Walk
import HandS.Codes
import HandS.Conv
import HandS.ForMost
import HandS.TupAny
import HandS.TupLe
import HandS.Dict
import KE.KStateDown
import Lean
import HandS.Head0
import HandS.Head1
import HandS.Head2
import HandS.HeadEnd
import HandS.HeadHook1
import HandS.HeadHook2
import PyProof.LongRange
import HandS.Text
import HandS.StrMore
import PyProof.SumAnyB
import KE.KFromBytes
import HandS.Exc
import HandS.ExcInit
import HandS.ExcField
import KE.KExcIs
import HandS.MakeKw
import HandS.ExcValue
import KE.KEqDict
import KE.KLam
import HandS.Lambda
import HandS.EndBits
import PyProof.OldK
import HandS.NestedK
import HandS.Gcd
import KE.KMathGC
import PySem.Challenge.RW_howeverwide_k41_whole_widths_joined
import HandS.Head3
set_option Elab.async false
set_option linter.all false
set_option maxRecDepth 100000
set_option maxHeartbeats 4000000
/-! A layer of ours over HandS: defs whose runs know that no repr stands around them (so that repr of lists may be shown), calls by keywords alone, repr of data, powers. -/
namespace Hw
open PySem PySem.Spec PyProof.Rows L2

/-- no repr is under way -/
abbrev Gd (A : Around) : Prop := A.guards = some []

section
variable (P : Program) (w : World) (K : PySem.W.Frag) (mg : Str → Option Value) (base : Heap) (CX : CXT)
/-- a def's promise where no repr is under way -/
structure FnG (k : Nat) (f : Addr) (fd : FuncData) (ps : List Str) (sp : Sp) : Prop where
  arity : ∀ vs H Q E, sp vs H Q E → vs.length = ps.length
  go : ∀ (A : Around) (outer : List Env) (s : Shared) (H : Hp) (args : Args) (us : List Value) (vs : List V) (Q : VK) (E : XK),
    Gd A → Room k A → Env0 P w K mg base A outer s H → BindsTo s fd args (ps.zip us) → Vals vs us → sp vs H Q E → codeAny (model P w) A (.call (.ref f) args) (CR CX outer P w H s Q E) s
end
section
variable {P : Program} {w : World} {K : PySem.W.Frag} {mg : Str → Option Value} {base : Heap} {CX : CXT}
theorem FnG.up {j k : Nat} {f : Addr} {fd : FuncData} {ps : List Str} {sp : Sp} (F : FnG P w K mg base CX j f fd ps sp) (h : j ≤ k) : FnG P w K mg base CX k f fd ps sp :=
  ⟨F.arity, fun A outer s H args us vs Q E g r => F.go A outer s H args us vs Q E g (r.mono h)⟩
theorem FnG.weak {k : Nat} {f : Addr} {fd : FuncData} {ps : List Str} {sp sp' : Sp} (F : FnG P w K mg base CX k f fd ps sp) (h : ∀ vs H Q E, sp' vs H Q E → sp vs H Q E) : FnG P w K mg base CX k f fd ps sp' :=
  ⟨fun vs H Q E q => F.arity vs H Q E (h _ _ _ _ q), fun A outer s H args us vs Q E g r e b v q => F.go A outer s H args us vs Q E g r e b v (h _ _ _ _ q)⟩
theorem FnG.ofOk {k : Nat} {f : Addr} {fd : FuncData} {ps : List Str} {sp : Sp} (F : FnOk P w K mg base CX k f fd ps sp) : FnG P w K mg base CX k f fd ps sp :=
  ⟨F.len, fun A outer s H args us vs Q E _ => F.run A outer s H args us vs Q E⟩

/-- a def of the text without defaults -/
abbrev DefAt (K : PySem.W.Frag) (x : Str) (st : Stmt) (f : Addr) (fd : FuncData) : Prop := FunD K x x (defArgs st) (defBody st) (defScope st) [] [] f fd

/-- the rule of a def's body, where no repr is under way -/
theorem bodyG {x qual : Str} {params : Arguments} {body : List Stmt} {scope : Scope} {dvs : List V} {kws : List (Str × V)} {f : Addr} {fd : FuncData} {N ps : List Str} {k : Nat} {sp : Sp}
    (F : FunD K x qual params body scope dvs kws f fd) (S : FnScope N ps scope) (ar : ∀ vs H Q E, sp vs H Q E → vs.length = ps.length)
    (hb : ∀ (cdv : Value) (A : Around) (outer : List Env) (s : Shared) (H : Hp) (vs : List V) (Q : VK) (E : XK), Gd (A.deeper (envOfC qual scope s.heap.objs.size f cdv)) → Room k (A.deeper (envOfC qual scope s.heap.objs.size f cdv)) → sp vs H Q E →
      ∃ t, PSs (cxOf CX P w K mg base N qual scope f cdv A outer s H E) body t ∧ t { nx := fun _ H' => Q .non H', rt := Q } (start N vs) H) : FnG P w K mg base CX (k + 1) f fd ps sp := by
  refine ⟨ar, ?_⟩
  intro A outer s H args us vs Q E gd room env bind rel want
  obtain ⟨oc, od, dV, kV, doc, pm, an, cdv, ct, osl, rfl, look, codeIs, -, -⟩ := F.ex
  have inK : K.In s.heap := env.mod.kin.keeps fun b o q => (env.bs b o q).1
  have noLim : s.heap.NoLimit := env.mod.nolimit.keeps fun b o q => (env.bs b o q).1
  have kinds : ∀ y ∈ ps.zip us, scope.names.lookup y.1 = some .local ∨ (scope.names.lookup y.1 = some .cell ∧ ((cellsFrom (s.heap.objs.size + 1) scope.names []).lookup y.1).isSome = true) := by
    rintro ⟨n, v⟩ hy
    cases S.par n (List.of_mem_zip hy).1 with
    | inl q => exact Or.inl q
    | inr q => exact Or.inr ⟨q, PySem.W.cellsFrom_some _ _ _ (Or.inl q)⟩
  refine codeAny_call_function room.depth (inK _ _ look) rfl S.co S.gen rfl (PySem.W.codeRec_of inK codeIs) (bind _ _ _ _ ?_)
  refine wpAny_newFunctionEnv_cells S.kind kinds ?_
  rintro env' rfl s1 x1
  refine ⟨noLim.keeps x1.toInCall.keep, codeAny_func ?_⟩
  obtain ⟨t, run, done⟩ := hb cdv A outer s H vs Q E gd (room.deeper _) want
  have I := inv_start (CX := CX) (E := E) S room.hd env (ar _ _ _ _ want) rel x1
  refine wpAny_mono (run.run [] s1 (start N vs) H _ I done) ?_ (fun _ _ q => q)
  intro fl s' after
  cases fl with
  | ret u =>
    obtain ⟨v, σ', H', J, rv, q⟩ := after
    exact ⟨v, H', J.os, J.bare, J.base, J.hok, rv, q⟩
  | next =>
    obtain ⟨σ', H', J, q⟩ := after
    exact ⟨V.non, H', J.os, J.bare, J.base, J.hok, rfl, q⟩
  | brk => exact (after.choose_spec.choose_spec.2 : False).elim
  | cont => exact (after.choose_spec.choose_spec.2 : False).elim
/-- the same for a def that lets nothing out -/
theorem bodyG0 {x : Str} {st : Stmt} {f : Addr} {fd : FuncData} {N ps : List Str} {k : Nat} {sp : Sp}
    (F : DefAt K x st f fd) (S : FnScope N ps (defScope st)) (ar : ∀ vs H Q E, sp vs H Q E → vs.length = ps.length)
    (hb : ∀ (cdv : Value) (A : Around) (outer : List Env) (s : Shared) (H : Hp) (vs : List V) (Q : VK) (E : XK), Gd (A.deeper (envOfC x (defScope st) s.heap.objs.size f cdv)) → Room k (A.deeper (envOfC x (defScope st) s.heap.objs.size f cdv)) → sp vs H Q E →
      ∃ t, PSs (cxOf CX0 P w K mg base N x (defScope st) f cdv A outer s H E).nox (defBody st) t ∧ t { nx := fun _ H' => Q .non H', rt := Q } (start N vs) H) : FnG P w K mg base CX0 (k + 1) f fd ps sp :=
  bodyG F S ar fun cdv A outer s H vs Q E gd room want => by
    obtain ⟨t, a, b⟩ := hb cdv A outer s H vs Q E gd room want
    exact ⟨t, a.nox, b⟩
end

section
variable {X : Cx} {CX : CXT} {k : Nat} {f : Addr} {fd : FuncData} {ps ks : List Str} {sp : Sp} {dvs : List V} {ds : List Value} {E : XK} {x : Str} {p pos : Pos} {e : Expr} {es : List Expr} {kws : List Keyword} {t tk : TA}
theorem runG {pins : List (Addr × Obj)} {σ : L2.St} {H : Hp} {s : Shared} {Q : VK} {us0 : List Value} {kw : List (Str × Value)} {us : List Value} {vs : List V} (F : FnG X.prog X.w X.K X.mg X.base CX k f fd ps sp) (gd : Gd X.A) (hr : Room k X.A) (hx : Passes CX X E)
    (I : Inv X pins σ H s) (hb : BindsTo s fd ⟨us0, kw⟩ (ps.zip us)) (r : Vals vs us) (h : sp vs H Q E) : wpAny (model X.prog X.w) X.A (call (.ref f) us0 kw) (EP X pins σ Q) X.xe s := by
  refine wpAny_call (codeAny_mono (F.go X.A X.stack s H ⟨us0, kw⟩ us vs Q E gd hr I.env0 hb r h) ?_)
  intro r s' q
  match r, q with
  | .error e, q => exact hx pins σ H s e s' I q
  | .ok (.ret u), q => exact I.after q
  | .ok .next, q => exact (show False from q).elim
  | .ok .brk, q => exact (show False from q).elim
  | .ok .cont, q => exact (show False from q).elim
/-- f(e, ..) -/
theorem pe_g (F : FnG X.prog X.w X.K X.mg X.base CX k f fd ps sp) (gd : Gd X.A) (hr : Room k X.A) (hg : Gl X x) (hm : X.mg x = some (.ref f)) (hk : PySem.W.keepIn X.K (.ref f) = true) (hb : Binds X.K fd ps ds) (hd : Vals dvs ds) (hx : Passes CX X E)
    (ha : PA X (e :: es) t) (hdb : (x == ("__debug__" : Str)) = false := by decide) (he : starEach (e :: es) X.env = (false, eval e X.env) :: starEach es X.env := by rfl) (hpl : (backTo pos (starEach es X.env)).any (·.1) = false := by rfl) :
    PE X (.Call (.Name x p) (e :: es) [] pos) (tCall sp dvs E t) := by
  constructor
  intro pins s σ H Q I h
  apply wpAny_Call_Name_kw
  refine ld_glob I hg hm (PySem.W.callWith_K (h₀ := X.base) I.ok.mod.kin hk (thn (ha.run pos pins s σ H _ I h) ?_) he hpl) hdb
  rintro us s1 ⟨vs, H1, I1, r, q⟩
  have r2 : Vals (vs ++ dvs) (us ++ ds) := r.append hd
  exact ⟨I1.kIn, runG F gd hr hx I1 (hb s1 us I1.kIn (r2.length.symm.trans (F.arity _ _ _ _ q))) r2 q⟩
/-- f() -/
theorem pe_g0 (F : FnG X.prog X.w X.K X.mg X.base CX k f fd ps sp) (gd : Gd X.A) (hr : Room k X.A) (hg : Gl X x) (hm : X.mg x = some (.ref f)) (hk : PySem.W.keepIn X.K (.ref f) = true) (hb : Binds X.K fd ps ds) (hd : Vals dvs ds) (hx : Passes CX X E)
    (hdb : (x == ("__debug__" : Str)) = false := by decide) : PE X (.Call (.Name x p) [] [] pos) (tCall sp dvs E tNil) := by
  constructor
  intro pins s σ H Q I h
  apply wpAny_Call_Name_kw
  refine ld_glob I hg hm (PySem.W.callWith_K0 I.kIn hk ?_) hdb
  have r2 : Vals ([] ++ dvs) ([] ++ ds) := Vals.append .nil hd
  exact runG (us0 := []) F gd hr hx I (hb s [] I.kIn (r2.length.symm.trans (F.arity _ _ _ _ h))) r2 h
/-- how a call by keywords alone binds: the keywords ks, brought into the parameters' order by g (by gV the values) -/
structure KwB (fd : FuncData) (ps ks : List Str) (g : List Value → List Value) (gV : List V → List V) : Prop where
  to : ∀ (s : Shared) (ws : List Value), ws.length = ks.length → BindsTo s fd ⟨[], ks.zip ws⟩ (ps.zip (g ws))
  rel : ∀ {zs : List V} {ws : List Value}, zs.length = ks.length → Vals zs ws → Vals (gV zs) (g ws)
def tCallW (sp : Sp) (n : Nat) (gV : List V → List V) (E : XK) (tk : TA) : TE := fun σ H Q => tk σ H fun zs H1 => zs.length = n ∧ sp (gV zs) H1 Q E
/-- f(k = v, ..) -/
theorem pe_gk {g : List Value → List Value} {gV : List V → List V} (F : FnG X.prog X.w X.K X.mg X.base CX k f fd ps sp) (gd : Gd X.A) (hr : Room k X.A) (hg : Gl X x) (hm : X.mg x = some (.ref f)) (hk : PySem.W.keepIn X.K (.ref f) = true) (hb : KwB fd ps ks g gV) (hx : Passes CX X E)
    (hkw : PK X kws tk) (hall : (backToKw pos (keywordEach kws X.env)).all (·.1.isSome) = true := by rfl) (hks : (backToKw pos (keywordEach kws X.env)).filterMap (·.1) = ks := by rfl) (hdb : (x == ("__debug__" : Str)) = false := by decide)
    (hpl : ((backTo pos (starEach [] X.env)).any (·.1) || (backToKw pos (keywordEach kws X.env)).any (·.1.isNone)) = false := by rfl) :
    PE X (.Call (.Name x p) [] kws pos) (tCallW sp ks.length gV E tk) := by
  constructor
  intro pins s σ H Q I h
  apply wpAny_Call_Name_kw
  refine ld_glob I hg hm (PySem.W.callWith_KW0 (h₀ := X.base) I.ok.mod.kin hk hall (thn (hkw.run pos pins s σ H _ I h) ?_) hpl) hdb
  rintro ws s1 ⟨zs, H1, I1, rz, l, q⟩
  rw [hks]
  exact ⟨I1.kIn, runG (us0 := []) F gd hr hx I1 (hb.to s1 ws (rz.length.symm.trans l)) (hb.rel l rz) q⟩
end

/-! ### operators -/
def CPowW (i j : Int) : Prop := 0 ≤ j ∧ (Builtin.Int.intBits i : Int) * j ≤ 2 ^ 27
theorem powW_ok {i : Int} {n j : Nat} (h : i.natAbs < 2 ^ n) (hj : n * j ≤ 134217728) : CPowW i (j : Int) := by
  have b := PyProof.Rows.intBits_le h
  refine ⟨Int.natCast_nonneg _, ?_⟩
  have e : (2 : Int) ^ 27 = 134217728 := by decide
  rw [e, ← Int.natCast_mul]
  have c : Builtin.Int.intBits i * j ≤ n * j := Nat.mul_le_mul_right j b
  omega
section
variable {X : Cx}
theorem op_powW : OpR X (binaryOp .Pow) (rI CPowW fun i j => .int (i ^ j.toNat)) := opI fun _ _ _ _ _ _ _ hc q => pow_int hc.1 hc.2 q
end
/-! ### data that may be shown and compared -/
mutual
/-- data without dicts, of numbers of at most 38 figures and plain texts -/
def okD : PyData → Bool
  | .none | .bool _ => true
  | .int i => decide (i.natAbs < 10 ^ 38)
  | .str x => PyData.strOk x && x.cps.toList.all fun c => decide (c < 16 ^ 8)
  | .list xs | .tuple xs => okDs xs
  | .dict _ => false
def okDs : List PyData → Bool
  | [] => true
  | x :: xs => okD x && okDs xs
end
theorem int38 {i : Int} (h : i.natAbs < 10 ^ 38) : i.natAbs.log2 < 1920 :=
  Nat.lt_of_lt_of_le (PySem.Flt.log2_lt_of (k := 127) (by decide) (Nat.lt_of_lt_of_le h (by decide +kernel))) (by decide)
theorem short38 {i : Int} (h : i.natAbs < 10 ^ 38) : (PyData.shown (.int i)).length ≤ 40 := by
  have e := int_text_length_le10 (k := 38) (by decide) h
  show (Str.ofString (toString i)).length ≤ 40
  rw [PySem.ofString_length]
  omega
mutual
theorem okD_all : ∀ d : PyData, okD d = true → d.canLay0 = true ∧ d.showable = true ∧ d.hasDict = false ∧ d.leavesShort 40 = true
  | .none, _ => ⟨by simp only [PyData.canLay0], by simp only [PyData.showable], by simp only [PyData.hasDict], by simp only [PyData.leavesShort]⟩
  | .bool _, _ => ⟨by simp only [PyData.canLay0], by simp only [PyData.showable], by simp only [PyData.hasDict], by simp only [PyData.leavesShort]⟩
  | .int i, h => by
    have h' : i.natAbs < 10 ^ 38 := by simpa only [okD, decide_eq_true_eq] using h
    exact ⟨by simp only [PyData.canLay0], by simp only [PyData.showable, decide_eq_true_eq]; exact int38 h', by simp only [PyData.hasDict], by simp only [PyData.leavesShort, decide_eq_true_eq]; exact short38 h'⟩
  | .str x, h => by
    have h' : PyData.strOk x = true ∧ (x.cps.toList.all fun c => decide (c < 16 ^ 8)) = true := by simpa only [okD, Bool.and_eq_true] using h
    exact ⟨by simp only [PyData.canLay0]; exact h'.1, by simp only [PyData.showable], by simp only [PyData.hasDict], by simp only [PyData.leavesShort]; exact h'.2⟩
  | .list xs, h => by
    obtain ⟨a, b, c, d⟩ := okDs_all xs (by simpa only [okD] using h)
    exact ⟨by simp only [PyData.canLay0]; exact a, by simp only [PyData.showable]; exact b, by simp only [PyData.hasDict]; exact c, by simp only [PyData.leavesShort]; exact d⟩
  | .tuple xs, h => by
    obtain ⟨a, b, c, d⟩ := okDs_all xs (by simpa only [okD] using h)
    exact ⟨by simp only [PyData.canLay0]; exact a, by simp only [PyData.showable]; exact b, by simp only [PyData.hasDict]; exact c, by simp only [PyData.leavesShort]; exact d⟩
  | .dict _, h => by simp only [okD] at h; cases h
theorem okDs_all : ∀ ds : List PyData, okDs ds = true → PyData.canLayAll0 ds = true ∧ PyData.showableAll ds = true ∧ PyData.hasDictAll ds = false ∧ PyData.leavesShortAll 40 ds = true
  | [], _ => ⟨by simp only [PyData.canLayAll0], by simp only [PyData.showableAll], by simp only [PyData.hasDictAll], by simp only [PyData.leavesShortAll]⟩
  | x :: xs, h => by
    have h' : okD x = true ∧ okDs xs = true := by simpa only [okDs, Bool.and_eq_true] using h
    obtain ⟨a, b, c, d⟩ := okD_all x h'.1
    obtain ⟨a2, b2, c2, d2⟩ := okDs_all xs h'.2
    exact ⟨by simp only [PyData.canLayAll0, a, a2, Bool.and_self], by simp only [PyData.showableAll, b, b2, Bool.and_self], by simp only [PyData.hasDictAll, c, c2, Bool.or_self], by simp only [PyData.leavesShortAll, d, d2, Bool.and_self]⟩
end
structure Nice (d : PyData) : Prop where
  ok : okD d = true
  deep : d.depth ≤ 60
  small : d.bulk ≤ 262144
theorem Nice.shaped {d : PyData} (n : Nice d) : SeqAt.shaped d = true := by
  show (d.canLay0 && decide (d.depth ≤ 64)) = true
  rw [(okD_all d n.ok).1, decide_eq_true (show d.depth ≤ 64 by have := n.deep; omega)]
  rfl
theorem Nice.fits {d : PyData} (n : Nice d) : d.shown.length ≤ sizeLine := by
  have h := PyData.shown_le_bulk 40 (by decide) d (okD_all d n.ok).2.2.2
  have k := n.small
  rw [sizeLine_eq]
  omega
theorem Nice.refl {d : PyData} (n : Nice d) : PyData.eqv d d = true := SeqAt.eqv_refl d (okD_all d n.ok).1
theorem Nice.int {i : Int} (h : i.natAbs < 10 ^ 38) : Nice (.int i) := ⟨by simp only [okD, decide_eq_true_eq]; exact h, by simp only [PyData.depth]; omega, by simp only [PyData.bulk]; omega⟩
theorem okDs_map {α : Type} (f : α → PyData) : ∀ l : List α, (∀ x ∈ l, okD (f x) = true) → okDs (l.map f) = true
  | [], _ => by simp only [List.map_nil, okDs]
  | x :: r, h => by
    simp only [List.map_cons, okDs, Bool.and_eq_true]
    exact ⟨h x (List.mem_cons_self ..), okDs_map f r fun y hy => h y (List.mem_cons_of_mem _ hy)⟩
theorem depthAll_le {n : Nat} : ∀ l : List PyData, (∀ x ∈ l, x.depth ≤ n) → PyData.depthAll l ≤ n
  | [], _ => by simp only [PyData.depthAll]; omega
  | x :: r, h => by
    have h1 := h x (List.mem_cons_self ..)
    have h2 := depthAll_le r fun y hy => h y (List.mem_cons_of_mem _ hy)
    simp only [PyData.depthAll]
    omega
theorem bulkAll_le {n : Nat} : ∀ l : List PyData, (∀ x ∈ l, x.bulk ≤ n) → PyData.bulkAll l ≤ l.length * (n + 1)
  | [], _ => by simp only [PyData.bulkAll]; omega
  | x :: r, h => by
    have h1 := h x (List.mem_cons_self ..)
    have h2 := bulkAll_le r fun y hy => h y (List.mem_cons_of_mem _ hy)
    simp only [PyData.bulkAll, List.length_cons]
    rw [Nat.succ_mul]
    omega
theorem Nice.listInt {l : List Int} (h : ∀ x ∈ l, x.natAbs < 10 ^ 38) (hl : l.length ≤ 100000) : Nice (.list (l.map .int)) := by
  refine ⟨?_, ?_, ?_⟩
  · simp only [okD]
    exact okDs_map _ l fun x hx => (Nice.int (h x hx)).ok
  · have := depthAll_le (n := 0) (l.map PyData.int) fun x hx => by
      obtain ⟨i, _, rfl⟩ := List.mem_map.mp hx
      simp only [PyData.depth]; omega
    simp only [PyData.depth]; omega
  · have := bulkAll_le (n := 0) (l.map PyData.int) fun x hx => by
      obtain ⟨i, _, rfl⟩ := List.mem_map.mp hx
      simp only [PyData.bulk]; omega
    simp only [PyData.bulk]
    rw [List.length_map] at this
    omega
theorem dps_int {K : PySem.W.Frag} {H : Hp} : ∀ l : List Int, DpAll K H (l.map V.int) (l.map PyData.int)
  | [] => .nil
  | x :: r => .cons (.int x) (dps_int r)
theorem dp_int {K : PySem.W.Frag} {H : Hp} {a : Addr} {l : List Int} (h : SqL K H a (l.map V.int)) : Dp K H (.ref a) (.list (l.map PyData.int)) := .lst h (dps_int l)
section
variable {X : Cx}
/-- repr of data: its text -/
def rRepr (K : PySem.W.Frag) : List V → Hp → VK → Prop := fun xs H Q => ∃ (x : V) (d : PyData), xs = [x] ∧ Dp K H x d ∧ Nice d ∧ Q (.str d.shown) H
theorem call_reprD (gd : Gd X.A) (hu : X.A.units + 64 < cLine) : CallR X (.builtin "repr") (rRepr X.K) := by
  intro pins s σ H xs us Q I r h
  obtain ⟨x, d, rfl, dp, nice, q⟩ := h
  obtain ⟨_, sh, nd, _⟩ := okD_all d nice.ok
  have sz := nice.fits
  have dep := nice.deep
  obtain ⟨u, rfl, ru⟩ := vals1 r
  obtain ⟨as, rd⟩ := Dp.reads I d x u dp ru
  have hsm : d.hasDict = true → sysModules ∉ as := fun e => by rw [nd] at e; cases e
  cases dp with
  | non => cases (show u = Value.none from ru); exact PySem.P.repr_of_none ⟨.str _, H, I.tok _, ⟨_, rfl⟩, q⟩
  | bl b => cases (show u = Value.bool b from ru); exact PySem.P.repr_of_bool ⟨.str _, H, I.tok _, ⟨_, rfl⟩, by simpa only [PyData.shown] using q⟩
  | int i => obtain ⟨t, rfl⟩ := ru; exact PySem.P.repr_of_int (by simpa only [PyData.showable, decide_eq_true_eq] using sh) ⟨.str _, H, I.tok _, ⟨_, rfl⟩, by simpa only [PyData.shown] using q⟩
  | str z => obtain ⟨t, rfl⟩ := ru; exact PySem.P.repr_of_str ⟨.str _, H, I.tok _, ⟨_, rfl⟩, by simpa only [PyData.shown] using q⟩ (by simpa only [PyData.shown] using sz)
  | @lst a xs ds e1 e2 =>
    cases (show u = Value.ref a from ru)
    exact repr_of_reads' rd sh hsm gd (by omega) (fun _ _ e => e) (fun h' u tk hk => ⟨.str _, H, I.kept hk, ⟨_, rfl⟩, q⟩) sz
  | @tup a xs ds e1 e2 =>
    cases (show u = Value.ref a from ru)
    exact repr_of_reads' rd sh hsm gd (by omega) (fun _ _ e => e) (fun h' u tk hk => ⟨.str _, H, I.kept hk, ⟨_, rfl⟩, q⟩) sz
end
/-! ### heaps -/
/-- all but what stands at a is as it was -/
def SameX (a : Addr) (H H' : Hp) : Prop := ∀ b o, b ≠ a → H b = some o → H' b = some o
theorem SameX.refl (a : Addr) (H : Hp) : SameX a H H := fun _ _ _ h => h
theorem SameX.of {a : Addr} {H H' : Hp} (e : Same H H') : SameX a H H' := fun b o _ h => e b o h
theorem SameX.trans {a : Addr} {H H1 H2 : Hp} (e : SameX a H H1) (f : SameX a H1 H2) : SameX a H H2 := fun b o n h => f b o n (e b o n h)
theorem SameX.upd {a : Addr} {H : Hp} {o : HO} : SameX a H (upd H a o) := fun b x n h => by rw [upd_ne n]; exact h
/-- what was there before a was made -/
theorem SameX.same {a : Addr} {H0 H H' : Hp} (e : SameX a H H') (s : Same H0 H) (n : H0 a = none) : Same H0 H' := fun b o h => e b o (ne_of_none h n) (s b o h)
theorem same_new' {H : Hp} {p : Addr} {o : HO} (h : H p = none) : Same H (upd H p o) := fun b x e => by
  rw [upd_ne (ne_of_none e h)]
  exact e
/-! ### tests -/
/-- a comprehension without a test keeps each item -/
theorem yes_if {σ : L2.St} {H : Hp} {A B : Hp → Prop} (h : A H) : tYes σ H fun b H3 => if b = true then A H3 else B H3 := by
  show if true = true then A H else B H
  exact iteT h

/-! ### the law's own call -/
section
variable {P : Program} {w : World} {K : PySem.W.Frag} {mg mb : Str → Option Value} {CX : CXT} {k : Nat} {fa a : Addr} {fd : FuncData} {x : Str} {sp : Sp} {st : Shared} {its : List Value} {ns : List Int}
/-- the call over an abstract heap that tracks nothing but (perhaps) the script -/
theorem lawG_at {H : Hp} (inK : K.In st.heap) (globals : st.heap.Ns mainGlobals mg) (blt : st.heap.Ns builtinsNs mb) (bltIs : ∀ x : Str, x ≠ "__name__" → mb x = bootBuiltins x) (noLim : st.heap.NoLimit) (noGen : st.gens = #[])
    (lst : st.heap.get? a = some { cls := .type "list", data := .seq its.toArray }) (room : Room k callerA)
    (F : ∀ base : Heap, K.In base → base.Ns mainGlobals mg → FnG P w K mg base CX k fa fd [x] sp) (binds : ∀ (s : Shared) (u : Value), BindsTo s fd ⟨[u], []⟩ [(x, u)])
    (want : sp [.ref a] H (fun v _ => v = .bl true) fun _ _ _ => False) (noEx : ∀ e s', CX [] H st (fun _ _ _ => False) e s' → False)
    (only : Only H) (held : HOk P w H st.heap) (atA : ∀ b, H b ≠ none → b = a) (notK : H a ≠ none → K.lookup a = none) :
    codeAny (model P w) callerA (.call (.ref fa) ⟨[.ref a], []⟩) (fun r s' => r = .ok (.ret (.bool true)) ∧ OldK st.heap s'.heap ∧ s'.os = st.os ∧ AllBare s'.gens) st := by
  have dicts : ∀ {b : Addr} {m : Str → Option Value}, st.heap.Ns b m → (hidT st.heap H).Ns b m := by
    rintro b m ⟨o, es, ep, q, d, rest⟩
    refine ⟨o, es, ep, hidT_get q ?_, d, rest⟩
    cases z : H b with
    | none => rfl
    | some u =>
      have eb := atA b (by rw [z]; exact Option.some_ne_none u)
      rw [eb, lst] at q
      have eo := Option.some.inj q
      rw [← eo] at d
      exact (nomatch (show Data.seq its.toArray _ = Data.dict es ep from d))
  have baseK : K.In (hidT st.heap H) := by
    intro b o q
    refine hidT_get (inK b o q) ?_
    cases z : H b with
    | none => rfl
    | some u =>
      have ne : H b ≠ none := by rw [z]; exact Option.some_ne_none u
      have eb := atA b ne
      subst eb
      rw [notK ne] at q
      exact nomatch q
  obtain ⟨mc, l1, l2⟩ := noLim
  have env : Env0 P w K mg (hidT st.heap H) callerA [] st H :=
    { frames := rfl, mod := { kin := baseK, glob := dicts globals, blt := ⟨mb, dicts blt, bltIs⟩, nolimit := ⟨mc, dicts l1, l2⟩ }, bs := fun b o q => of_hidT q,
      bsz := Nat.le_of_eq (hidT_size _ _), funs := trivial, frf := fun b z => (nomatch z), hok := held, bare := .of_eq noGen }
  refine codeAny_mono ((F _ baseK (dicts globals)).go callerA [] st H ⟨[.ref a], []⟩ [.ref a] [.ref a] _ _ rfl room env (binds st (.ref a)) (.cons rfl .nil) want) ?_
  intro r s' q
  match r, q with
  | .error e, q => exact (noEx e s' q).elim
  | .ok .next, q => exact (show False from q).elim
  | .ok .brk, q => exact (show False from q).elim
  | .ok .cont, q => exact (show False from q).elim
  | .ok (.ret u), ⟨v, H', eos, bare, un, held', rv, ev⟩ =>
    have ev' : v = .bl true := ev
    subst ev'
    cases (show u = Value.bool true from rv)
    refine ⟨rfl, OldK.of_keep ?_, eos, bare⟩
    intro b o q
    cases z : H b with
    | none => exact un.keep b o q z (fun y => nomatch y) (fun y => nomatch y)
    | some u =>
      obtain y | ⟨ob, xs, y⟩ := only b
      · rw [z] at y
        exact nomatch y
      · have q1 := (held b _ y).1
        have q2 := (held' b _ (un.frzs b ob _ y)).1
        rw [q] at q1
        rw [Option.some.inj q1]
        exact q2
theorem lawG (inK : K.In st.heap) (globals : st.heap.Ns mainGlobals mg) (blt : st.heap.Ns builtinsNs mb) (bltIs : ∀ x : Str, x ≠ "__name__" → mb x = bootBuiltins x) (noLim : st.heap.NoLimit) (noGen : st.gens = #[])
    (lst : st.heap.get? a = some { cls := .type "list", data := .seq its.toArray }) (areInts : IntsAre its ns) (len : ns.length ≤ sizeLine) (room : Room k callerA)
    (F : ∀ base : Heap, K.In base → base.Ns mainGlobals mg → FnG P w K mg base CX k fa fd [x] sp) (binds : ∀ (s : Shared) (u : Value), BindsTo s fd ⟨[u], []⟩ [(x, u)])
    (want : ∀ H : Hp, Only H → SqL K H a (ns.map V.int) → sp [.ref a] H (fun v _ => v = .bl true) fun _ _ _ => False) (noEx : ∀ H e s', CX [] H st (fun _ _ _ => False) e s' → False) :
    codeAny (model P w) callerA (.call (.ref fa) ⟨[.ref a], []⟩) (fun r s' => r = .ok (.ret (.bool true)) ∧ OldK st.heap s'.heap ∧ s'.os = st.os ∧ AllBare s'.gens) st := by
  have rel := vals_ints areInts
  cases z : K.lookup a with
  | some o =>
    have q := inK a o z
    rw [lst] at q
    have eo := Option.some.inj q
    subst eo
    have only : Only (fun _ => none) := fun _ => Or.inl rfl
    have sq : SqL K (fun _ => none) a (ns.map V.int) := Or.inr ⟨_, its.toArray, _, z, rfl, rfl, rfl, by rw [List.size_toArray, areInts.length]; exact len, rel⟩
    exact lawG_at inK globals blt bltIs noLim noGen lst room F binds (want _ only sq) (noEx _) only (fun b u y => nomatch (show none = some u from y)) (fun b y => (y rfl).elim) (fun y => (y rfl).elim)
  | none =>
    let H : Hp := upd (fun _ => none) a (.frz { cls := .type "list", data := .seq its.toArray } (.lst (ns.map V.int)))
    have at1 : H a = some (.frz { cls := .type "list", data := .seq its.toArray } (.lst (ns.map V.int))) := upd_same
    have off : ∀ b, b ≠ a → H b = none := fun b hb => upd_ne hb
    have only : Only H := by
      intro b
      by_cases hb : b = a
      · rw [hb]
        exact Or.inr ⟨_, _, at1⟩
      · exact Or.inl (off b hb)
    have only1 : ∀ b, H b ≠ none → b = a := by
      intro b y
      by_cases hb : b = a
      · exact hb
      · exact (y (off b hb)).elim
    have held : HOk P w H st.heap := by
      intro b u y
      have hb : b = a := only1 b (by rw [y]; exact Option.some_ne_none u)
      subst hb
      rw [at1] at y
      rw [← Option.some.inj y]
      exact ⟨lst, by rw [List.length_map]; exact len, its, _, rel, lst⟩
    exact lawG_at inK globals blt bltIs noLim noGen lst room F binds (want _ only (Or.inl (Or.inr ⟨_, at1⟩))) (noEx _) only held only1 fun _ => z
end
/-- a law: what the head leaves, from the law's promise -/
theorem walkG {l : PySem.W.OpenLaw} {n k : Nat} {q : Program} {loose : List Str} {XP : (Str → Option Value) → Heap → Prop} {YP : World → Heap → Prop} {d : DefRec} {x : Str}
    (most : l.most = some n) (small : n ≤ sizeLine) (plain : d.params.defaults = []) (room : Room k callerA)
    (F : ∀ (w : World) (mg : Str → Option Value) (fa : Addr) (h : Heap), YP w h → h.Ns mainGlobals mg → mg d.name = some (.ref fa) →
      ∃ (K : PySem.W.Frag) (fd : FuncData) (sp : Sp), K.In h ∧ (∀ (s : Shared) (u : Value), BindsTo s fd ⟨[u], []⟩ [(x, u)]) ∧
        (∀ (H : Hp) (a : Addr) (ns : List Int), ns.length ≤ n → Only H → SqL K H a (ns.map V.int) → sp [.ref a] H (fun v _ => v = .bl true) fun _ _ _ => False) ∧
        ∀ base : Heap, K.In base → base.Ns mainGlobals mg → FnG l.prog w K mg base CX0 k fa fd [x] sp) :
    PySem.W.WalkO q loose XP YP l.row.toRowW d [] (fun f vs => PySem.call f vs) := by
  apply Att.attach_call most plain
  intro w s0 s1 mg mb fa o pm cd doc a vs ns G Y _ _ _ gl lst areInts len gens
  obtain ⟨K, fd, sp, inK, binds, want, run⟩ := F w mg fa _ Y G.T.g gl
  exact lawG inK G.T.g G.T.b G.T.builtins G.T.nolimit gens lst areInts (Nat.le_trans len small) room run binds (fun H o s => want H a ns len o s) fun _ _ _ y => y.elim
end Hw

set_option Elab.async false
set_option linter.all false
set_option maxRecDepth 100000
set_option maxHeartbeats 4000000
/-! data that stands in tracked lists, tuples, dicts -/
namespace Hw
open PySem PySem.Spec PyProof.Rows L2
mutual
inductive Dt (H : Hp) : V → PyData → Prop
  | non : Dt H .non .none
  | bl (b : Bool) : Dt H (.bl b) (.bool b)
  | int (i : Int) : Dt H (.int i) (.int i)
  | str (x : Str) : Dt H (.str x) (.str x)
  | lst {a : Addr} {xs : List V} {ds : List PyData} : H a = some (.lst xs) → DtAll H xs ds → Dt H (.ref a) (.list ds)
  | tup {a : Addr} {xs : List V} {ds : List PyData} : H a = some (.tup xs) → DtAll H xs ds → Dt H (.ref a) (.tuple ds)
  | dic {a : Addr} (kvs : List (Str × Int)) : H a = some (.dK (kvs.map fun p => (.inr p.1, .int p.2))) → Dt H (.ref a) (.dict (kvs.map fun p => (.str p.1, .int p.2)))
inductive DtAll (H : Hp) : List V → List PyData → Prop
  | nil : DtAll H [] []
  | cons {v : V} {vs : List V} {d : PyData} {ds : List PyData} : Dt H v d → DtAll H vs ds → DtAll H (v :: vs) (d :: ds)
end
mutual
theorem Dt.same {H H' : Hp} (e : Same H H') : ∀ (d : PyData) (v : V), Dt H v d → Dt H' v d
  | .none, _, h => by cases h; exact .non
  | .bool b, _, h => by cases h; exact .bl b
  | .int i, _, h => by cases h; exact .int i
  | .str x, _, h => by cases h; exact .str x
  | .list ds, _, h => by
    cases h with
    | lst hs ha => exact .lst (e _ _ hs) (DtAll.same e ds _ ha)
  | .tuple ds, _, h => by
    cases h with
    | tup hs ha => exact .tup (e _ _ hs) (DtAll.same e ds _ ha)
  | .dict ds, _, h => by
    cases h with
    | dic kvs hs => exact .dic kvs (e _ _ hs)
theorem DtAll.same {H H' : Hp} (e : Same H H') : ∀ (ds : List PyData) (vs : List V), DtAll H vs ds → DtAll H' vs ds
  | [], _, h => by cases h; exact .nil
  | d :: ds, _, h => by
    cases h with
    | cons h1 h2 => exact .cons (Dt.same e d _ h1) (DtAll.same e ds _ h2)
end
theorem Dt.to {H H' : Hp} {v : V} {d : PyData} (h : Dt H v d) (e : Same H H') : Dt H' v d := Dt.same e d v h
theorem DtAll.to {H H' : Hp} {v : List V} {d : List PyData} (h : DtAll H v d) (e : Same H H') : DtAll H' v d := DtAll.same e d v h
/-- a write at a place that held nothing of the data -/
theorem Dt.toX {a : Addr} {H H' : Hp} (e : SameX a H H') (H0 : Hp) (s : Same H0 H) (n : H0 a = none) {v : V} {d : PyData} (h : Dt H0 v d) : Dt H' v d := h.to (e.same s n)
theorem DtAll.len {H : Hp} : ∀ {vs : List V} {ds : List PyData}, DtAll H vs ds → vs.length = ds.length
  | _, _, .nil => rfl
  | _, _, .cons _ r => by rw [List.length_cons, List.length_cons, r.len]
theorem DtAll.get {H : Hp} : ∀ {vs : List V} {ds : List PyData}, DtAll H vs ds → ∀ (i : Nat) (v : V), vs[i]? = some v → ∃ d, ds[i]? = some d ∧ Dt H v d
  | _, _, .nil, i, v, h => by simp at h
  | _, _, .cons h1 r, 0, v, h => by
    have e := Option.some.inj (show some _ = some v from h)
    subst e
    exact ⟨_, rfl, h1⟩
  | _, _, .cons _ r, i + 1, v, h => r.get i v h
theorem DtAll.app {H : Hp} : ∀ {vs : List V} {ds : List PyData} {ws : List V} {es : List PyData}, DtAll H vs ds → DtAll H ws es → DtAll H (vs ++ ws) (ds ++ es)
  | _, _, _, _, .nil, k => k
  | _, _, _, _, .cons h r, k => .cons h (r.app k)
theorem DtAll.one {H : Hp} {v : V} {d : PyData} (h : Dt H v d) : DtAll H [v] [d] := .cons h .nil
theorem DtAll.ints {H : Hp} : ∀ l : List Int, DtAll H (l.map V.int) (l.map PyData.int)
  | [] => .nil
  | x :: r => .cons (.int x) (DtAll.ints r)
theorem DtAll.bls {H : Hp} : ∀ l : List Bool, DtAll H (l.map V.bl) (l.map PyData.bool)
  | [] => .nil
  | x :: r => .cons (.bl x) (DtAll.bls r)
theorem Dt.ints {H : Hp} {a : Addr} {l : List Int} (h : H a = some (.lst (l.map V.int))) : Dt H (.ref a) (.list (l.map PyData.int)) := .lst h (DtAll.ints l)
theorem readsKV {h : Heap} {P : Program} {w : World} : ∀ (kvs : List (Str × Int)) (vs : List (Key × Value)) (es : List DictEntry), KV (kvs.map fun p => ((.inr p.1 : Key), V.int p.2)) vs → PySem.Pairs (mixKind P w) es vs →
    ReadsAll h (es.map (·.key)) ((kvs.map fun p => (PyData.str p.1, PyData.int p.2)).map (·.1)) [] ∧ ReadsAll h (es.map (·.val)) ((kvs.map fun p => (PyData.str p.1, PyData.int p.2)).map (·.2)) []
  | [], _, _, .nil, .nil => ⟨.nil, .nil⟩
  | p :: r, _, _, .cons h1 t1, .cons f1 f2 t2 => by
    obtain ⟨a, b⟩ := readsKV (h := h) r _ _ t1 t2
    obtain ⟨e1, e2⟩ := h1
    skip
    skip
    obtain ⟨t, ht⟩ := e2
    constructor
    · refine ReadsAll.cons (as := []) (bs := []) ?_ a
      rw [← e1] at f1
      have f1 : keyIs (.inr p.1) _ = true := f1
      rcases keyIs_shape f1 with ⟨i, t, z, q⟩ | ⟨x, t, z, q⟩
      · cases z
      · dsimp only
        rw [q]
        cases z
        exact .str _ _
    · refine ReadsAll.cons (as := []) (bs := []) ?_ b
      dsimp only
      rw [f2, ht]
      exact .int _ _
section
variable {X : Cx} {pins : List (Addr × Obj)} {σ : L2.St} {H : Hp} {s : Shared}
mutual
theorem Dt.reads (I : Inv X pins σ H s) : ∀ (d : PyData) (v : V) (u : Value), Dt H v d → RelV v u → ∃ as, Reads s.heap u d as ∧ ((∃ kvs, d = .dict kvs) → sysModules ∉ as)
  | .none, _, _, h, r => by
    cases h
    cases r
    exact ⟨_, Reads.none, fun ⟨_, z⟩ => nomatch z⟩
  | .bool b, _, _, h, r => by
    cases h
    cases r
    exact ⟨_, Reads.bool b, fun ⟨_, z⟩ => nomatch z⟩
  | .int i, _, _, h, r => by
    cases h
    obtain ⟨t, rfl⟩ := r
    exact ⟨_, Reads.int i t, fun ⟨_, z⟩ => nomatch z⟩
  | .str x, _, _, h, r => by
    cases h
    obtain ⟨t, rfl⟩ := r
    exact ⟨_, Reads.str x t, fun ⟨_, z⟩ => nomatch z⟩
  | .list ds, _, _, h, r => by
    cases h with
    | lst hs ha =>
      cases r
      obtain ⟨its, rv, ⟨o, n, ho, hc, _, hd⟩, _⟩ := I.list (X := X) (show SqL X.K H _ _ from .inl (.inl hs))
      obtain ⟨as, hr⟩ := Dt.readsAll I ds _ its ha rv
      exact ⟨_, Reads.list ho hc hd hr, fun ⟨_, z⟩ => nomatch z⟩
  | .tuple ds, _, _, h, r => by
    cases h with
    | tup hs ha =>
      cases r
      obtain ⟨its, rv, ⟨o, ho, hc, n, hd⟩, _⟩ := I.tuple (X := X) (show SqT X.K H _ _ from .inl (.inl hs))
      obtain ⟨as, hr⟩ := Dt.readsAll I ds _ its ha rv
      exact ⟨_, Reads.tuple ho hc hd hr, fun ⟨_, z⟩ => nomatch z⟩
  | .dict ds, _, _, h, r => by
    cases h with
    | dic kvs hs =>
      cases r
      obtain ⟨_, ns, vs, kv, o, es, ep, ho, hx, hd, _, pr, _⟩ := dk_of I.hok hs
      obtain ⟨a, b⟩ := readsKV (h := s.heap) kvs vs es.toList kv pr
      refine ⟨_, Reads.dict ho hx.1 hd a b, fun _ z => ?_⟩
      simp only [List.append_nil, List.mem_singleton] at z
      rw [← z] at ns
      simp at ns
theorem Dt.readsAll (I : Inv X pins σ H s) : ∀ (ds : List PyData) (vs : List V) (us : List Value), DtAll H vs ds → Vals vs us → ∃ as, ReadsAll s.heap us ds as
  | [], _, _, h, r => by
    cases h
    cases r
    exact ⟨_, ReadsAll.nil⟩
  | d :: ds, _, _, h, r => by
    cases h with
    | cons h1 h2 =>
      cases r with
      | cons r1 r2 =>
        obtain ⟨as, q1, _⟩ := Dt.reads I d _ _ h1 r1
        obtain ⟨bs, q2⟩ := Dt.readsAll I ds _ _ h2 r2
        exact ⟨_, ReadsAll.cons q1 q2⟩
end
end
section
variable {X : Cx}
def rEqT : R2 := fun x y H Q => ∃ d e, Dt H x d ∧ Dt H y e ∧ SeqAt.shaped d = true ∧ SeqAt.shaped e = true ∧ Q (.bl (PyData.eqv d e)) H
def rNeT : R2 := fun x y H Q => ∃ d e, Dt H x d ∧ Dt H y e ∧ SeqAt.shaped d = true ∧ SeqAt.shaped e = true ∧ Q (.bl (!PyData.eqv d e)) H
theorem op_eqT (hu : X.A.units + 64 < cLine) : OpR X (compareOp .Eq) rEqT := by
  intro pins s σ H x y v u Q I rx ry h
  obtain ⟨d, e, hd, he, sd, se, q⟩ := h
  obtain ⟨as, r1, _⟩ := Dt.reads I d x v hd rx
  obtain ⟨bs, r2, _⟩ := Dt.reads I e y u he ry
  exact SeqAt.compareEq_shaped r1 r2 sd se hu ⟨.bl _, H, I, rfl, q⟩
theorem op_neT (hu : X.A.units + 64 < cLine) : OpR X (compareOp .NotEq) rNeT := by
  intro pins s σ H x y v u Q I rx ry h
  obtain ⟨d, e, hd, he, sd, se, q⟩ := h
  obtain ⟨as, r1, _⟩ := Dt.reads I d x v hd rx
  obtain ⟨bs, r2, _⟩ := Dt.reads I e y u he ry
  exact SeqAt.compareNe_shaped r1 r2 sd se hu ⟨.bl _, H, I, rfl, q⟩
/-- data whose repr can be told -/
structure Shows (d : PyData) : Prop where
  show_ : d.showable = true
  fits : d.shown.length ≤ sizeLine
  deep : d.depth ≤ 60
  top : d.hasDict = true → ∃ kvs, d = .dict kvs
theorem Nice.shows {d : PyData} (n : Nice d) : Shows d := ⟨(okD_all d n.ok).2.1, n.fits, n.deep, fun z => by rw [(okD_all d n.ok).2.2.1] at z; cases z⟩
theorem shows_empty : Shows (.dict []) := ⟨by decide +kernel, by rw [sizeLine_eq]; decide +kernel, by decide +kernel, fun _ => ⟨_, rfl⟩⟩
/-- repr of data: its text -/
def rReprT : List V → Hp → VK → Prop := fun xs H Q => ∃ (x : V) (d : PyData), xs = [x] ∧ Dt H x d ∧ Shows d ∧ Q (.str d.shown) H
theorem call_reprT (gd : Gd X.A) (hu : X.A.units + 64 < cLine) : CallR X (.builtin "repr") rReprT := by
  intro pins s σ H xs us Q I r h
  obtain ⟨x, d, rfl, dp, nice, q⟩ := h
  have sh := nice.show_
  have sz := nice.fits
  have dep := nice.deep
  obtain ⟨u, rfl, ru⟩ := vals1 r
  obtain ⟨as, rd, nm⟩ := Dt.reads I d x u dp ru
  have hsm : d.hasDict = true → sysModules ∉ as := fun e => nm (nice.top e)
  cases dp with
  | non => cases (show u = Value.none from ru); exact PySem.P.repr_of_none ⟨.str _, H, I.tok _, ⟨_, rfl⟩, q⟩
  | bl b => cases (show u = Value.bool b from ru); exact PySem.P.repr_of_bool ⟨.str _, H, I.tok _, ⟨_, rfl⟩, by simpa only [PyData.shown] using q⟩
  | int i => obtain ⟨t, rfl⟩ := ru; exact PySem.P.repr_of_int (by simpa only [PyData.showable, decide_eq_true_eq] using sh) ⟨.str _, H, I.tok _, ⟨_, rfl⟩, by simpa only [PyData.shown] using q⟩
  | str z => obtain ⟨t, rfl⟩ := ru; exact PySem.P.repr_of_str ⟨.str _, H, I.tok _, ⟨_, rfl⟩, by simpa only [PyData.shown] using q⟩ (by simpa only [PyData.shown] using sz)
  | @lst a xs ds e1 e2 =>
    cases (show u = Value.ref a from ru)
    exact repr_of_reads' rd sh hsm gd (by omega) (fun _ _ e => e) (fun h' u tk hk => ⟨.str _, H, I.kept hk, ⟨_, rfl⟩, q⟩) sz
  | @tup a xs ds e1 e2 =>
    cases (show u = Value.ref a from ru)
    exact repr_of_reads' rd sh hsm gd (by omega) (fun _ _ e => e) (fun h' u tk hk => ⟨.str _, H, I.kept hk, ⟨_, rfl⟩, q⟩) sz
  | @dic a kvs e1 =>
    cases (show u = Value.ref a from ru)
    exact repr_of_reads' rd sh hsm gd (by omega) (fun _ _ e => e) (fun h' u tk hk => ⟨.str _, H, I.kept hk, ⟨_, rfl⟩, q⟩) sz
end
/-! ### what kind data is of -/
def tyN : PyData → String
  | .none => "NoneType"
  | .bool _ => "bool"
  | .int _ => "int"
  | .str _ => "str"
  | .list _ => "list"
  | .tuple _ => "tuple"
  | .dict _ => "dict"
def isInt : PyData → Bool | .int _ => true | .bool _ => true | _ => false
def isBool : PyData → Bool | .bool _ => true | _ => false
def isList : PyData → Bool | .list _ => true | _ => false
def isTuple : PyData → Bool | .tuple _ => true | _ => false
def isStr : PyData → Bool | .str _ => true | _ => false
theorem kit_int (d : PyData) : kitB (tyN d) "int" = some (isInt d) := by cases d <;> kernel_rfl
theorem kit_bool (d : PyData) : kitB (tyN d) "bool" = some (isBool d) := by cases d <;> kernel_rfl
theorem kit_list (d : PyData) : kitB (tyN d) "list" = some (isList d) := by cases d <;> kernel_rfl
theorem kit_tuple (d : PyData) : kitB (tyN d) "tuple" = some (isTuple d) := by cases d <;> kernel_rfl
theorem kit_str (d : PyData) : kitB (tyN d) "str" = some (isStr d) := by cases d <;> kernel_rfl
theorem Dt.ty {K : PySem.W.Frag} {H : Hp} {v : V} {d : PyData} (h : Dt H v d) : TyX K H v (.type (tyN d)) := by
  cases h with
  | non => exact .base .non
  | bl b => exact .base (.bl b)
  | int i => exact .base (.int i)
  | str x => exact .base (.str x)
  | lst e _ => exact .base (.lst e)
  | tup e _ => exact .base (.tup e)
  | dic kvs e => exact .base (.dK e)
section
variable {X : Cx}
/-- isinstance(x, T) of data -/
def rIsD : List V → Hp → VK → Prop := fun xs H Q => ∃ (x : V) (d : PyData) (T : String) (b : Bool), xs = [x, .ty T] ∧ Dt H x d ∧ kitB (tyN d) T = some b ∧ Q (.bl b) H
theorem call_isD : CallR X (.builtin "isinstance") rIsD := by
  intro pins s σ H xs us Q I r h
  obtain ⟨x, d, T, b, rfl, hd, hk, q⟩ := h
  exact call_isi pins s σ H _ us Q I r ⟨x, .ty T, _, _, b, rfl, .ty T, hd.ty, kit_ty hk, q⟩
end
/-! ### sizes -/
structure Bnd (k b : Nat) (d : PyData) : Prop where
  ok : okD d = true
  deep : d.depth ≤ k
  small : d.bulk ≤ b
theorem Bnd.nice {k b : Nat} {d : PyData} (h : Bnd k b d) (hk : k ≤ 60) (hb : b ≤ 262144) : Nice d := ⟨h.ok, Nat.le_trans h.deep hk, Nat.le_trans h.small hb⟩
theorem Bnd.up {k b k' b' : Nat} {d : PyData} (h : Bnd k b d) (hk : k ≤ k') (hb : b ≤ b') : Bnd k' b' d := ⟨h.ok, Nat.le_trans h.deep hk, Nat.le_trans h.small hb⟩
theorem Bnd.non {k b : Nat} : Bnd k b .none := ⟨by simp only [okD], by simp only [PyData.depth]; omega, by simp only [PyData.bulk]; omega⟩
theorem Bnd.bl {k b : Nat} (x : Bool) : Bnd k b (.bool x) := ⟨by simp only [okD], by simp only [PyData.depth]; omega, by simp only [PyData.bulk]; omega⟩
theorem Bnd.int {k b : Nat} {i : Int} (h : i.natAbs < 10 ^ 38) : Bnd k b (.int i) := ⟨by simp only [okD, decide_eq_true_eq]; exact h, by simp only [PyData.depth]; omega, by simp only [PyData.bulk]; omega⟩
theorem okDs_of : ∀ l : List PyData, (∀ x ∈ l, okD x = true) → okDs l = true
  | [], _ => by simp only [okDs]
  | x :: r, h => by
    simp only [okDs, Bool.and_eq_true]
    exact ⟨h x (List.mem_cons_self ..), okDs_of r fun y hy => h y (List.mem_cons_of_mem _ hy)⟩
theorem okDs_mem : ∀ l : List PyData, okDs l = true → ∀ x ∈ l, okD x = true
  | [], _, x, hx => by cases hx
  | y :: r, h, x, hx => by
    have h' : okD y = true ∧ okDs r = true := by simpa only [okDs, Bool.and_eq_true] using h
    rcases List.mem_cons.mp hx with e | e
    · rw [e]; exact h'.1
    · exact okDs_mem r h'.2 x e
theorem depthAll_mem : ∀ l : List PyData, ∀ x ∈ l, x.depth ≤ PyData.depthAll l
  | [], x, hx => by cases hx
  | y :: r, x, hx => by
    simp only [PyData.depthAll]
    rcases List.mem_cons.mp hx with e | e
    · rw [e]; omega
    · have := depthAll_mem r x e
      omega
theorem bulkAll_mem : ∀ l : List PyData, ∀ x ∈ l, x.bulk ≤ PyData.bulkAll l
  | [], x, hx => by cases hx
  | y :: r, x, hx => by
    simp only [PyData.bulkAll]
    rcases List.mem_cons.mp hx with e | e
    · rw [e]; omega
    · have := bulkAll_mem r x e
      omega
theorem Bnd.list {k b n c : Nat} {ds : List PyData} (h : ∀ x ∈ ds, Bnd k b x) (hl : ds.length ≤ n) (hc : n * (b + 1) ≤ c) : Bnd (k + 1) c (.list ds) := by
  refine ⟨?_, ?_, ?_⟩
  · simp only [okD]
    exact okDs_of ds fun x hx => (h x hx).ok
  · have := depthAll_le (n := k) ds fun x hx => (h x hx).deep
    simp only [PyData.depth]; omega
  · have := bulkAll_le (n := b) ds fun x hx => (h x hx).small
    have := Nat.mul_le_mul_right (b + 1) hl
    simp only [PyData.bulk]; omega
theorem Bnd.tuple {k b n c : Nat} {ds : List PyData} (h : ∀ x ∈ ds, Bnd k b x) (hl : ds.length ≤ n) (hc : n * (b + 1) ≤ c) : Bnd (k + 1) c (.tuple ds) := by
  refine ⟨?_, ?_, ?_⟩
  · simp only [okD]
    exact okDs_of ds fun x hx => (h x hx).ok
  · have := depthAll_le (n := k) ds fun x hx => (h x hx).deep
    simp only [PyData.depth]; omega
  · have := bulkAll_le (n := b) ds fun x hx => (h x hx).small
    have := Nat.mul_le_mul_right (b + 1) hl
    simp only [PyData.bulk]; omega
theorem Nice.listMem {ds : List PyData} (h : Nice (.list ds)) : ∀ x ∈ ds, Nice x := fun x hx => by
  obtain ⟨a, b, c⟩ := h
  have a' : okDs ds = true := by simpa only [okD] using a
  have e1 := depthAll_mem ds x hx
  have e2 := bulkAll_mem ds x hx
  simp only [PyData.depth] at b
  simp only [PyData.bulk] at c
  exact ⟨okDs_mem ds a' x hx, by omega, by omega⟩
theorem Nice.tupMem {ds : List PyData} (h : Nice (.tuple ds)) : ∀ x ∈ ds, Nice x := fun x hx => by
  obtain ⟨a, b, c⟩ := h
  have a' : okDs ds = true := by simpa only [okD] using a
  have e1 := depthAll_mem ds x hx
  have e2 := bulkAll_mem ds x hx
  simp only [PyData.depth] at b
  simp only [PyData.bulk] at c
  exact ⟨okDs_mem ds a' x hx, by omega, by omega⟩
end Hw
namespace Hw
open PySem PySem.Spec PyProof.Rows L2
/-- a turn of a comprehension: the list so far is f 0, .., f (i - 1) -/
theorem lcS {H1 H' : Hp} {D : Addr} {f : Nat → V} {i : Nat} (hD : H1 D = none) (s : Same H1 H') (e : H' D = some (.lst ((List.range i).map f))) (hz : i ≤ 1000000) :
    ∃ acc, H' D = some (.lst acc) ∧ acc.length < sizeLine ∧ Same H1 (upd H' D (.lst (acc ++ [f i]))) ∧ (upd H' D (.lst (acc ++ [f i]))) D = some (.lst ((List.range (i + 1)).map f)) := by
  refine ⟨_, e, ?_, fun b o hb => ?_, ?_⟩
  · rw [List.length_map, List.length_range, sizeLine_eq]; omega
  · rw [upd_ne (ne_of_none hb hD)]
    exact s b o hb
  · rw [upd_same, List.range_succ, List.map_append]
    rfl
theorem range_get {α : Type} (l : List α) (f : α → V) (g : Nat → V) (h : ∀ i x, l[i]? = some x → g i = f x) : (List.range l.length).map g = l.map f := by
  apply List.ext_getElem?
  intro i
  rw [List.getElem?_map, List.getElem?_map]
  by_cases hi : i < l.length
  · rw [List.getElem?_range hi, List.getElem?_eq_getElem hi]
    exact congrArg some (h i _ (List.getElem?_eq_getElem hi))
  · rw [List.getElem?_eq_none (by rw [List.length_range]; omega), List.getElem?_eq_none (by omega)]
    rfl
/-- the same, told of the list's members -/
theorem range_mem {α : Type} {xs : List V} {l : List α} (f : α → V) (g : Nat → V) (hl : xs.length = l.length) (h : ∀ i x, l[i]? = some x → g i = f x) : (List.range xs.length).map g = l.map f := by
  rw [hl]
  exact range_get l f g h
end Hw
namespace Hw
open PySem PySem.Spec PyProof.Rows L2
/-- the answer about the member at i -/
def atF {α : Type} (l : List α) (g : α → Bool) (i : Nat) : Bool := match l[i]? with
  | some y => g y
  | none => false
theorem atF_at {α : Type} {l : List α} {g : α → Bool} {i : Nat} {y : α} (h : l[i]? = some y) : atF l g i = g y := by
  unfold atF
  rw [h]
theorem all_atF {α : Type} (l : List α) (g : α → Bool) : ((List.range l.length).map (atF l g)).all id = l.all g := by
  rw [Bool.eq_iff_iff, List.all_eq_true, List.all_eq_true]
  constructor
  · intro h y hy
    obtain ⟨i, hi, e⟩ := List.getElem_of_mem hy
    have h2 := h (atF l g i) (List.mem_map.mpr ⟨i, List.mem_range.mpr hi, rfl⟩)
    rw [atF_at (List.getElem?_eq_getElem hi), e] at h2
    exact h2
  · intro h b hb
    obtain ⟨i, hi, rfl⟩ := List.mem_map.mp hb
    have hi := List.mem_range.mp hi
    rw [atF_at (List.getElem?_eq_getElem hi)]
    exact h _ (List.getElem_mem hi)
theorem vi {a b : Int} : decide (V.int a = V.int b) = decide (a = b) := by
  by_cases h : a = b
  · rw [h, decide_eq_true rfl, decide_eq_true rfl]
  · rw [decide_eq_false h, decide_eq_false fun z => h (by cases z; rfl)]
theorem vs_eq {a b : Str} : decide (V.str a = V.str b) = decide (a = b) := by
  by_cases h : a = b
  · rw [h, decide_eq_true rfl, decide_eq_true rfl]
  · rw [decide_eq_false h, decide_eq_false fun z => h (by cases z; rfl)]
theorem shaped_list {fs : List PyData} (h : ∀ x ∈ fs, Nice x) : SeqAt.shaped (.list fs) = true := by
  have h1 : PyData.canLayAll0 fs = true := (okDs_all fs (okDs_of fs fun x hx => (h x hx).ok)).1
  have h2 := depthAll_le (n := 60) fs fun x hx => (h x hx).deep
  have h3 : PyData.canLay0 (.list fs) = true := by simp only [PyData.canLay0]; exact h1
  have h4 : PyData.depth (.list fs) ≤ 64 := by simp only [PyData.depth]; omega
  show (PyData.canLay0 (.list fs) && decide (PyData.depth (.list fs) ≤ 64)) = true
  rw [h3, decide_eq_true h4]
  rfl
theorem eqv_nil (fs : List PyData) : PyData.eqv (.list fs) (.list []) = fs.isEmpty := by cases fs <;> simp [PyData.eqv, PyData.eqvAll]
theorem shaped_nil : SeqAt.shaped (.list []) = true := shaped_list fun x hx => nomatch hx
end Hw

/-! ### the rules with the written part named -/
namespace Hw
open PySem PySem.Spec PyProof.Rows L2
section
variable {X : Cx} {K : PySem.W.Frag}
def rLenK (K : PySem.W.Frag) : List V → Hp → VK → Prop := fun xs H Q => ∃ p ys, xs = [.ref p] ∧ (SqL K H p ys ∨ SqT K H p ys) ∧ Q (.int ys.length) H
theorem call_lenK (h : X.K = K) : CallR X (.builtin "len") (rLenK K) := by subst h; exact call_len_seq
theorem cr_allK (h : X.K = K) (hc : X.calm = true) : CallR X (.builtin "all") (rAll K) := by subst h; exact cr_all hc
theorem cr_sumK (h : X.K = K) (hc : X.calm = true) : CallR X (.builtin "sum") (rSum K) := by subst h; exact cr_sum hc
def rListK (K : PySem.W.Frag) : List V → Hp → VK → Prop := fun xs H Q => ∃ p ys, xs = [.ref p] ∧ (SqL K H p ys ∨ SqT K H p ys) ∧ ∀ l, H l = none → Q (.ref l) (upd H l (.lst ys))
theorem call_listK (h : X.K = K) : CallR X (.type "list") (rListK K) := by subst h; exact call_list_of
def rTupK (K : PySem.W.Frag) : List V → Hp → VK → Prop := fun xs H Q => ∃ p ys, xs = [.ref p] ∧ ((SqL K H p ys ∧ ∀ l, H l = none → Q (.ref l) (upd H l (.tup ys))) ∨ (SqT K H p ys ∧ Q (.ref p) H))
theorem call_tupK (h : X.K = K) : CallR X (.type "tuple") (rTupK K) := by subst h; exact call_tuple_of
theorem ix_listK (h : X.K = K) : IxR X (rIxL K) := by subst h; exact ix_list
theorem ix_tupK (h : X.K = K) : IxR X (rIxT K) := by subst h; exact ix_tup
theorem sl_listK (h : X.K = K) : SlR X (rSlL K) := by subst h; exact sl_list
theorem sl_tupK (h : X.K = K) : SlR X (rSlA K) := by subst h; exact sl_tupA
end
end Hw
namespace Hw
open PySem PySem.Spec PyProof.Rows L2
/-! ### the heap but for one place -/
def off (a : Addr) (H : Hp) : Hp := fun b => if b = a then none else H b
theorem off_ne {a b : Addr} {H : Hp} (h : b ≠ a) : off a H b = H b := if_neg h
theorem off_at {a b : Addr} {H : Hp} {o : HO} (h : off a H b = some o) : b ≠ a ∧ H b = some o := by
  unfold off at h
  by_cases e : b = a
  · rw [if_pos e] at h; cases h
  · rw [if_neg e] at h; exact ⟨e, h⟩
theorem off_same {a : Addr} {H : Hp} : Same (off a H) H := fun _ _ h => (off_at h).2
theorem SameX.off {a : Addr} {H H' : Hp} (e : SameX a H H') : Same (off a H) (off a H') := fun b o h => by
  obtain ⟨n, h⟩ := off_at h
  rw [off_ne n]
  exact e b o n h
theorem off_of {a b : Addr} {H : Hp} {o : HO} (n : b ≠ a) (h : H b = some o) : off a H b = some o := by rw [off_ne n]; exact h
theorem Dt.on {a : Addr} {H : Hp} {v : V} {d : PyData} (h : Dt (off a H) v d) : Dt H v d := h.to off_same
/-! ### lists of numbers -/
abbrev natV (l : List Nat) : List V := l.map fun (x : Nat) => V.int (x : Int)
abbrev natD (l : List Nat) : List PyData := l.map fun (x : Nat) => PyData.int (x : Int)
theorem DtAll.nats {H : Hp} : ∀ l : List Nat, DtAll H (natV l) (natD l)
  | [] => .nil
  | x :: r => .cons (.int x) (DtAll.nats r)
theorem DtAll.nats_inv {H : Hp} : ∀ (l : List Nat) (vs : List V), DtAll H vs (natD l) → vs = natV l
  | [], _, h => by cases h; rfl
  | x :: r, _, h => by
    cases h with
    | cons h1 h2 =>
      cases h1
      rw [DtAll.nats_inv r _ h2]
      rfl
theorem DtAll.bls_inv {H : Hp} : ∀ (l : List Bool) (vs : List V), DtAll H vs (l.map PyData.bool) → vs = l.map V.bl
  | [], _, h => by cases h; rfl
  | x :: r, _, h => by
    cases h with
    | cons h1 h2 =>
      cases h1
      rw [DtAll.bls_inv r _ h2]
      rfl
theorem Dt.nats {H : Hp} {a : Addr} {l : List Nat} (h : H a = some (.lst (natV l))) : Dt H (.ref a) (.list (natD l)) := .lst h (DtAll.nats l)
theorem nat_get {l : List Nat} {i : Nat} {x : V} (h : (natV l)[i]? = some x) : ∃ b : Nat, l[i]? = some b ∧ V.int (b : Int) = x := by
  rw [List.getElem?_map] at h
  exact Option.map_eq_some_iff.mp h
theorem nat_at {l : List Nat} {i b : Nat} (h : l[i]? = some b) : (natV l)[i]? = some (V.int (b : Int)) := by
  rw [List.getElem?_map, h]
  rfl
theorem Bnd.nats {l : List Nat} {n c : Nat} (h : ∀ x ∈ l, x < 10 ^ 38) (hl : l.length ≤ n) (hc : n ≤ c) : Bnd 1 c (.list (natD l)) := by
  refine Bnd.list (k := 0) (b := 0) (n := n) (fun d hd => ?_) (by rw [List.length_map]; exact hl) (by omega)
  obtain ⟨x, hx, rfl⟩ := List.mem_map.mp hd
  exact .int (by have := h x hx; omega)
/-! ### bits in columns -/
def bitN (x p : Nat) : Nat := x / 2 ^ p % 2
def worthN : List Nat → Nat
  | [] => 0
  | b :: r => b + 2 * worthN r
theorem worthN_add : ∀ (l : List Nat) (b : Nat), worthN (l ++ [b]) = worthN l + b * 2 ^ l.length
  | [], b => by show b + 2 * 0 = 0 + b * 1; omega
  | c :: r, b => by
    show c + 2 * worthN (r ++ [b]) = c + 2 * worthN r + b * 2 ^ (r.length + 1)
    rw [worthN_add r b, Nat.pow_succ, Nat.mul_add, ← Nat.mul_assoc b, Nat.mul_comm _ 2]
    omega
theorem worthN_lt : ∀ l : List Nat, (∀ b ∈ l, b < 2) → worthN l < 2 ^ l.length
  | [], _ => by show 0 < 1; omega
  | c :: r, h => by
    have h1 := h c (List.mem_cons_self ..)
    have h2 := worthN_lt r fun b hb => h b (List.mem_cons_of_mem _ hb)
    show c + 2 * worthN r < 2 ^ (r.length + 1)
    rw [Nat.pow_succ]
    omega
theorem bitN_lt (x p : Nat) : bitN x p < 2 := Nat.mod_lt _ (by decide)
theorem bitN_worth : ∀ (l : List Nat) (i : Nat), (∀ b ∈ l, b < 2) → bitN (worthN l) i = l.getD i 0
  | [], i, _ => by
    show 0 / 2 ^ i % 2 = ([] : List Nat).getD i 0
    rw [Nat.zero_div]
    rfl
  | c :: r, 0, h => by
    have h1 := h c (List.mem_cons_self ..)
    show (c + 2 * worthN r) / 2 ^ 0 % 2 = c
    rw [Nat.pow_zero, Nat.div_one]
    omega
  | c :: r, i + 1, h => by
    have h1 := h c (List.mem_cons_self ..)
    have ih := bitN_worth r i fun b hb => h b (List.mem_cons_of_mem _ hb)
    show (c + 2 * worthN r) / 2 ^ (i + 1) % 2 = r.getD i 0
    rw [Nat.pow_succ, Nat.mul_comm (2 ^ i) 2, ← Nat.div_div_eq_div_mul, show (c + 2 * worthN r) / 2 = worthN r by omega]
    exact ih
theorem worthN_bits (x : Nat) : ∀ n : Nat, worthN ((List.range n).map (bitN x)) = x % 2 ^ n
  | 0 => by rw [Nat.pow_zero, Nat.mod_one]; rfl
  | n + 1 => by
    rw [List.range_succ, List.map_append, List.map_cons, List.map_nil, worthN_add, worthN_bits x n, List.length_map, List.length_range, Nat.mod_pow_succ, Nat.mul_comm]; rfl
/-- the p-th bits of all -/
def col (l : List Nat) (p : Nat) : Nat := worthN (l.map fun x => bitN x p)
def tr (n : Nat) (l : List Nat) : List Nat := (List.range n).map (col l)
theorem col_bits (l : List Nat) (p : Nat) : ∀ b ∈ l.map fun x => bitN x p, b < 2 := fun b hb => by
  obtain ⟨x, _, rfl⟩ := List.mem_map.mp hb
  exact bitN_lt x p
theorem col_lt (l : List Nat) (p : Nat) : col l p < 2 ^ l.length := by
  have := worthN_lt _ (col_bits l p)
  rw [List.length_map] at this
  exact this
theorem tr_len (n : Nat) (l : List Nat) : (tr n l).length = n := by unfold tr; rw [List.length_map, List.length_range]
theorem tr_lt {n : Nat} {l : List Nat} : ∀ x ∈ tr n l, x < 2 ^ l.length := fun x hx => by
  obtain ⟨p, _, rfl⟩ := List.mem_map.mp hx
  exact col_lt l p
theorem tr_tr {n : Nat} {l : List Nat} (h : ∀ x ∈ l, x < 2 ^ n) : tr l.length (tr n l) = l := by
  apply List.ext_getElem?
  intro i
  unfold tr
  rw [List.getElem?_map]
  by_cases hi : i < l.length
  · rw [List.getElem?_range hi, List.getElem?_eq_getElem hi]
    show some (col ((List.range n).map (col l)) i) = some l[i]
    unfold col
    rw [List.map_map]
    have e : (List.range n).map ((fun x => bitN x i) ∘ fun p => worthN (l.map fun x => bitN x p)) = (List.range n).map (bitN l[i]) := by
      apply List.map_congr_left
      intro p _
      show bitN (worthN (l.map fun x => bitN x p)) i = bitN l[i] p
      rw [bitN_worth _ _ (col_bits l p), List.getD_eq_getElem?_getD, List.getElem?_map, List.getElem?_eq_getElem hi]
      rfl
    rw [e, worthN_bits, Nat.mod_eq_of_lt (h _ (List.getElem_mem hi))]
  · rw [List.getElem?_eq_none (by rw [List.length_range]; omega), List.getElem?_eq_none (by omega)]
    rfl
theorem col_take {l : List Nat} {i x : Nat} (p : Nat) (h : l[i]? = some x) : col (l.take (i + 1)) p = col (l.take i) p + bitN x p * 2 ^ i := by
  unfold col
  have hi : i < l.length := (List.getElem?_eq_some_iff.mp h).1
  rw [List.take_add_one, h, List.map_append]
  show worthN (_ ++ [bitN x p]) = _
  rw [worthN_add, List.length_map, List.length_take, Nat.min_eq_left (by omega)]
/-! ### tables -/
structure Tb where
  many : Nat
  steps : List (List Nat)
  ends : List Bool
def Tb.d (t : Tb) : PyData := .tuple [.int (t.many : Int), .list (t.steps.map fun l => .list (natD l)), .list (t.ends.map .bool)]
structure Tb.Good (t : Tb) : Prop where
  many : t.many ≤ 6
  some : 0 < t.steps.length
  same : t.ends.length = t.steps.length
  line : ∀ l ∈ t.steps, l.length = 2 ^ t.many
  stand : ∀ l ∈ t.steps, ∀ x ∈ l, x < t.steps.length
def Tb.next (t : Tb) (s c : Nat) : Nat := (t.steps.getD s []).getD c 0
def Tb.behind (t : Tb) (l : List Nat) : Nat := l.foldl t.next 0
theorem Tb.Good.next {t : Tb} (g : t.Good) {s c : Nat} (hs : s < t.steps.length) (hc : c < 2 ^ t.many) : ∃ l, t.steps[s]? = Option.some l ∧ l[c]? = Option.some (t.next s c) ∧ t.next s c < t.steps.length := by
  have e := List.getElem?_eq_getElem hs
  have hl := g.line _ (List.getElem_mem hs)
  have hc' : c < (t.steps[s]).length := by omega
  have e2 := List.getElem?_eq_getElem hc'
  have en : t.next s c = t.steps[s][c] := by
    unfold Tb.next
    rw [List.getD_eq_getElem?_getD, List.getD_eq_getElem?_getD, e, Option.getD_some, e2]
    rfl
  exact ⟨_, e, by rw [en]; exact e2, by rw [en]; exact g.stand _ (List.getElem_mem hs) _ (List.getElem_mem hc')⟩
theorem Tb.Good.behind {t : Tb} (g : t.Good) : ∀ (l : List Nat) (s : Nat), s < t.steps.length → (∀ x ∈ l, x < 2 ^ t.many) → l.foldl t.next s < t.steps.length
  | [], s, hs, _ => hs
  | c :: r, s, hs, h => by
    obtain ⟨_, _, _, h3⟩ := g.next hs (h c (List.mem_cons_self ..))
    exact g.behind r _ h3 fun x hx => h x (List.mem_cons_of_mem _ hx)
theorem Tb.behind_take {t : Tb} {l : List Nat} {i c : Nat} (h : l[i]? = some c) : t.behind (l.take (i + 1)) = t.next (t.behind (l.take i)) c := by
  unfold Tb.behind
  rw [List.take_add_one, h, List.foldl_append]
  rfl
/-- where the table's parts stand -/
theorem Dt.tab {H : Hp} {x : V} {t : Tb} (h : Dt H x t.d) : ∃ (a b c : Addr) (ys : List V), x = .ref a ∧ H a = some (.tup [.int (t.many : Int), .ref b, .ref c]) ∧ H b = some (.lst ys) ∧ ys.length = t.steps.length ∧
    (∀ (i : Nat) (l : List Nat), t.steps[i]? = some l → ∃ r : Addr, ys[i]? = some (V.ref r) ∧ H r = some (.lst (natV l))) ∧ H c = some (.lst (t.ends.map V.bl)) ∧ DtAll H ys (t.steps.map fun l => .list (natD l)) := by
  unfold Tb.d at h
  cases h with
  | @tup a xs ds ha hs =>
  cases hs with
  | cons hm hs =>
  cases hs with
  | cons hst hs =>
  cases hs with
  | cons hen hs =>
  cases hs with
  | nil =>
  cases hm
  cases hst with
  | @lst b ys ss hb hss =>
  cases hen with
  | @lst c zs es hc hes =>
  have e := DtAll.bls_inv _ _ hes
  subst e
  have hl : ys.length = t.steps.length := by rw [hss.len, List.length_map]
  refine ⟨a, b, c, ys, rfl, ha, hb, hl, fun i l hi => ?_, hc, hss⟩
  have il : i < ys.length := by rw [hl]; exact (List.getElem?_eq_some_iff.mp hi).1
  obtain ⟨d, hd, hy⟩ := hss.get i _ (List.getElem?_eq_getElem il)
  rw [List.getElem?_map, hi] at hd
  cases hd
  generalize hz : ys[i] = z at hy
  cases hy with
  | @lst r qs _ hr hq =>
    have e := DtAll.nats_inv _ _ hq
    subst e
    exact ⟨r, by rw [List.getElem?_eq_getElem il, hz], hr⟩
end Hw
namespace Hw
open PySem PySem.Spec PyProof.Rows L2
/-! ### a comprehension with a test -/
def Flt (ds : List PyData) (p : PyData → Bool) (H1 : Hp) (D : Addr) (i : Nat) (H' : Hp) : Prop := Same H1 H' ∧ ∃ vs, H' D = some (.lst vs) ∧ DtAll H1 vs ((ds.take i).filter p) ∧ vs.length ≤ i
theorem Flt.start {ds : List PyData} {p : PyData → Bool} {H1 : Hp} {D : Addr} (hD : H1 D = none) : Flt ds p H1 D 0 (upd H1 D (.lst [])) := ⟨same_new' hD, [], upd_same, .nil, Nat.le_refl _⟩
theorem Flt.keep {ds : List PyData} {p : PyData → Bool} {H1 H' : Hp} {D : Addr} {i : Nat} {d : PyData} {y : V} (f : Flt ds p H1 D i H') (hD : H1 D = none) (hi : ds[i]? = some d) (hp : p d = true) (hy : Dt H1 y d) (hz : i ≤ 1000000) :
    ∃ acc, H' D = some (.lst acc) ∧ acc.length < sizeLine ∧ Flt ds p H1 D (i + 1) (upd H' D (.lst (acc ++ [y]))) := by
  obtain ⟨s, vs, e, hv, hl⟩ := f
  refine ⟨vs, e, by rw [sizeLine_eq]; omega, fun b o hb => ?_, vs ++ [y], upd_same, ?_, by rw [List.length_append]; show vs.length + 1 ≤ i + 1; omega⟩
  · rw [upd_ne (ne_of_none hb hD)]
    exact s b o hb
  · rw [List.take_add_one, hi, List.filter_append]
    refine hv.app ?_
    show DtAll H1 [y] (List.filter p [d])
    rw [List.filter_cons_of_pos hp]
    exact .cons hy .nil
theorem Flt.skip {ds : List PyData} {p : PyData → Bool} {H1 H' : Hp} {D : Addr} {i : Nat} {d : PyData} (f : Flt ds p H1 D i H') (hi : ds[i]? = some d) (hp : p d = false) : Flt ds p H1 D (i + 1) H' := by
  obtain ⟨s, vs, e, hv, hl⟩ := f
  refine ⟨s, vs, e, ?_, by omega⟩
  rw [List.take_add_one, hi, List.filter_append]
  show DtAll H1 vs (_ ++ List.filter p [d])
  rw [List.filter_cons_of_neg (by rw [hp]; exact Bool.false_ne_true), List.filter_nil, List.append_nil]
  exact hv
theorem Flt.done {ds : List PyData} {p : PyData → Bool} {H1 H' : Hp} {D : Addr} {n : Nat} (f : Flt ds p H1 D n H') (hn : n = ds.length) : Same H1 H' ∧ Dt H' (.ref D) (.list (ds.filter p)) := by
  obtain ⟨s, vs, e, hv, hl⟩ := f
  subst hn
  rw [List.take_length] at hv
  exact ⟨s, .lst e (hv.to s)⟩
theorem filter_none {α : Type} (p : α → Bool) : ∀ l : List α, (l.filter fun x => !p x).isEmpty = l.all p
  | [] => rfl
  | x :: r => by
    rw [List.all_cons, ← filter_none p r]
    cases h : p x with
    | true => rw [List.filter_cons_of_neg (by rw [h]; exact Bool.false_ne_true)]; rfl
    | false => rw [List.filter_cons_of_pos (by rw [h]; rfl)]; rfl
/-- .. != [] of such a list -/
theorem ne_nil {H' : Hp} {E : Addr} {x : V} {ds : List PyData} {p : PyData → Bool} {Q : VK} (hx : Dt H' x (.list (ds.filter p))) (hE : H' E = none) (nd : ∀ d ∈ ds, Nice d) (h : Q (.bl (!(ds.filter p).isEmpty)) (upd H' E (.lst []))) : rNeT x (.ref E) (upd H' E (.lst [])) Q := by
  refine ⟨_, .list [], hx.to (same_new' hE), .lst upd_same .nil, shaped_list fun d hd => nd d (List.mem_filter.mp hd).1, shaped_nil, ?_⟩
  rw [eqv_nil]
  exact h
end Hw

set_option Elab.async false
set_option linter.all false
set_option maxRecDepth 100000
set_option maxHeartbeats 4000000
/-! expressions that only lay new data: what they give, without their places -/
namespace Hw
open PySem PySem.Spec PyProof.Rows L2
/-- the heap without some places -/
def offs (l : List Addr) (H : Hp) : Hp := fun b => if b ∈ l then none else H b
theorem offs_at {l : List Addr} {b : Addr} {H : Hp} {o : HO} (h : offs l H b = some o) : b ∉ l ∧ H b = some o := by
  unfold offs at h
  by_cases e : b ∈ l
  · rw [if_pos e] at h; cases h
  · rw [if_neg e] at h; exact ⟨e, h⟩
theorem offs_of {l : List Addr} {b : Addr} {H : Hp} {o : HO} (n : b ∉ l) (h : H b = some o) : offs l H b = some o := by
  unfold offs
  rw [if_neg n]
  exact h
theorem offs_same {l : List Addr} {H : Hp} : Same (offs l H) H := fun _ _ h => (offs_at h).2
theorem offs_mono {l : List Addr} {H H' : Hp} (e : Same H H') : Same (offs l H) (offs l H') := fun b o h => by
  obtain ⟨n, h⟩ := offs_at h
  exact offs_of n (e b o h)
theorem offs_one {a : Addr} {H : Hp} : off a H = offs [a] H := by
  funext b
  unfold off offs
  by_cases h : b = a
  · rw [if_pos h, if_pos (by rw [h]; exact List.mem_singleton.mpr rfl)]
  · rw [if_neg h, if_neg fun z => h (List.mem_singleton.mp z)]
/-- a write at a hidden place -/
theorem offs_upd {l : List Addr} {F : Addr} {H : Hp} {o : HO} (h : F ∈ l) : offs l (upd H F o) = offs l H := by
  funext b
  unfold offs
  by_cases e : b ∈ l
  · rw [if_pos e, if_pos e]
  · rw [if_neg e, if_neg e, upd_ne fun z => e (by rw [z]; exact h)]
/-- what the work rests on: it stays while new things are laid -/
structure Stb (l : List Addr) (S : Hp → Prop) : Prop where
  keep : ∀ H H', S H → Same H H' → S H'
  new : ∀ H p, S H → H p = none → p ∉ l
abbrev Fi := V → Hp → Prop
def Ev (S : Hp → Prop) (φ : Fi) (te : TE) (σ : L2.St) : Prop := ∀ H Q, S H → (∀ x H', Same H H' → φ x H' → Q x H') → te σ H Q
def Eva (S : Hp → Prop) (Φ : List V → Hp → Prop) (ta : TA) (σ : L2.St) : Prop := ∀ H Q, S H → (∀ xs H', Same H H' → Φ xs H' → Q xs H') → ta σ H Q
def Evo (S : Hp → Prop) (to : TO) (σ : L2.St) : Prop := ∀ H (Q : Option Int → Hp → Prop), S H → (∀ x H', Same H H' → Q x H') → to σ H Q
/-- data; a list, a tuple of data; data one by one -/
def D (l : List Addr) (P : PyData → Prop) : Fi := fun x H => ∃ d, Dt (offs l H) x d ∧ P d
def LD (l : List Addr) (P : PyData → Prop) (n : Nat) : Fi := fun x H => ∃ p vs ds, x = .ref p ∧ offs l H p = some (.lst vs) ∧ DtAll (offs l H) vs ds ∧ (∀ d ∈ ds, P d) ∧ ds.length ≤ n
def TD (l : List Addr) (P : PyData → Prop) (n : Nat) : Fi := fun x H => ∃ p vs ds, x = .ref p ∧ offs l H p = some (.tup vs) ∧ DtAll (offs l H) vs ds ∧ (∀ d ∈ ds, P d) ∧ ds.length ≤ n
def AD (l : List Addr) (P : PyData → Prop) (n : Nat) : List V → Hp → Prop := fun xs H => ∃ ds, DtAll (offs l H) xs ds ∧ (∀ d ∈ ds, P d) ∧ ds.length ≤ n
section
variable {l : List Addr} {P : PyData → Prop} {k b n k' b' n' : Nat} {S : Hp → Prop} {σ : L2.St} {K : PySem.W.Frag}
theorem D.same {x : V} {H H' : Hp} (h : D l P x H) (e : Same H H') : D l P x H' := by
  obtain ⟨d, hd, hb⟩ := h
  exact ⟨d, hd.to (offs_mono e), hb⟩
theorem D.up {x : V} {H : Hp} (h : D l (Bnd k b) x H) (hk : k ≤ k') (hb : b ≤ b') : D l (Bnd k' b') x H := by
  obtain ⟨d, hd, h2⟩ := h
  exact ⟨d, hd, h2.up hk hb⟩
theorem LD.same {x : V} {H H' : Hp} (h : LD l P n x H) (e : Same H H') : LD l P n x H' := by
  obtain ⟨p, vs, ds, rfl, h1, h2, h3, h4⟩ := h
  exact ⟨p, vs, ds, rfl, offs_mono e _ _ h1, h2.to (offs_mono e), h3, h4⟩
theorem LD.d {x : V} {H : Hp} (h : LD l (Bnd k b) n x H) : D l (Bnd (k + 1) (n * (b + 1))) x H := by
  obtain ⟨p, vs, ds, rfl, h1, h2, h3, h4⟩ := h
  exact ⟨.list ds, .lst h1 h2, Bnd.list h3 h4 (Nat.le_refl _)⟩
theorem TD.d {x : V} {H : Hp} (h : TD l (Bnd k b) n x H) : D l (Bnd (k + 1) (n * (b + 1))) x H := by
  obtain ⟨p, vs, ds, rfl, h1, h2, h3, h4⟩ := h
  exact ⟨.tuple ds, .tup h1 h2, Bnd.tuple h3 h4 (Nat.le_refl _)⟩
theorem LD.up {x : V} {H : Hp} (h : LD l (Bnd k b) n x H) (hk : k ≤ k') (hb : b ≤ b') (hn : n ≤ n') : LD l (Bnd k' b') n' x H := by
  obtain ⟨p, vs, ds, rfl, h1, h2, h3, h4⟩ := h
  exact ⟨p, vs, ds, rfl, h1, h2, fun d hd => (h3 d hd).up hk hb, by omega⟩
theorem Ev.mono {φ ψ : Fi} {te : TE} (h : Ev S φ te σ) (m : ∀ x H, φ x H → ψ x H) : Ev S ψ te σ := fun H Q s q => h H Q s fun x H' e p => q x H' e (m x H' p)
theorem Ev.du {te : TE} (h : Ev S (D l (Bnd k b)) te σ) (hk : k ≤ k' := by decide) (hb : b ≤ b' := by decide) : Ev S (D l (Bnd k' b')) te σ := h.mono fun _ _ p => p.up hk hb
theorem Ev.ld {te : TE} (h : Ev S (LD l (Bnd k b) n) te σ) (hk : k + 1 ≤ k' := by decide) (hb : n * (b + 1) ≤ b' := by decide) : Ev S (D l (Bnd k' b')) te σ := h.mono fun _ _ p => p.d.up hk hb
theorem Ev.td {te : TE} (h : Ev S (TD l (Bnd k b) n) te σ) (hk : k + 1 ≤ k' := by decide) (hb : n * (b + 1) ≤ b' := by decide) : Ev S (D l (Bnd k' b')) te σ := h.mono fun _ _ p => p.d.up hk hb
theorem Ev.lu {te : TE} (h : Ev S (LD l (Bnd k b) n) te σ) (hk : k ≤ k' := by decide) (hb : b ≤ b' := by decide) (hn : n ≤ n' := by decide) : Ev S (LD l (Bnd k' b') n') te σ := h.mono fun _ _ p => p.up hk hb hn
/-! constants, names -/
theorem Ev.non : Ev S (D l (Bnd k b)) (tC .non) σ := fun H Q _ q => q _ H (Same.refl H) ⟨_, .non, .non⟩
theorem Ev.bl (x : Bool) : Ev S (D l (Bnd k b)) (tC (.bl x)) σ := fun H Q _ q => q _ H (Same.refl H) ⟨_, .bl x, .bl x⟩
theorem Ev.int (i : Int) (h : i.natAbs < 10 ^ 38 := by decide) : Ev S (D l (Bnd k b)) (tC (.int i)) σ := fun H Q _ q => q _ H (Same.refl H) ⟨_, .int i, .int h⟩
theorem Bnd.str {x : Str} (h : okD (.str x) = true) (hb : x.cps.size ≤ b) : Bnd k b (.str x) := ⟨h, by simp only [PyData.depth]; omega, by simp only [PyData.bulk]; omega⟩
theorem Ev.str (x : Str) (h : okD (.str x) = true := by decide +kernel) (hb : x.cps.size ≤ b := by decide +kernel) : Ev S (D l (Bnd k b)) (tC (.str x)) σ := fun H Q _ q => q _ H (Same.refl H) ⟨_, .str x, .str h hb⟩
theorem Ev.var {φ : Fi} {i : Nat} {x : V} (h : σ[i]? = some (some x)) (hx : ∀ H, S H → φ x H) : Ev S φ (tVar i) σ := fun H Q s q => ⟨x, h, q x H (Same.refl H) (hx H s)⟩
/-! lists, tuples -/
theorem Eva.nil : Eva S (AD l P 0) tNil σ := fun H Q _ q => q _ H (Same.refl H) ⟨[], .nil, (fun _ h => nomatch h), Nat.le_refl _⟩
theorem Eva.cons (st : Stb l S) {te : TE} {ta : TA} (h : Ev S (D l P) te σ) (r : Eva S (AD l P n) ta σ) : Eva S (AD l P (n + 1)) (tCons te ta) σ := fun H Q s q => by
  refine h H _ s fun x H1 e1 p1 => r H1 _ (st.keep _ _ s e1) fun xs H2 e2 p2 => q _ H2 (e1.trans e2) ?_
  obtain ⟨d, hd, hb⟩ := p1.same e2
  obtain ⟨ds, h1, h2, h3⟩ := p2
  exact ⟨d :: ds, .cons hd h1, fun y hy => by
    rcases List.mem_cons.mp hy with z | z
    · rw [z]; exact hb
    · exact h2 y z, by rw [List.length_cons]; omega⟩
theorem Ev.lst (st : Stb l S) {ta : TA} (h : Eva S (AD l P n) ta σ) (hn : n ≤ 100000 := by decide) : Ev S (LD l P n) (tLst ta) σ := fun H Q s q => by
  refine h H _ s fun xs H1 e1 p1 => ?_
  obtain ⟨ds, h1, h2, h3⟩ := p1
  refine ⟨by rw [h1.len, sizeLine_eq]; omega, fun p hp => ?_⟩
  have np := st.new H1 p (st.keep _ _ s e1) hp
  have e2 := same_new' (o := .lst xs) hp
  exact q _ _ (e1.trans e2) ⟨p, xs, ds, rfl, offs_of np upd_same, h1.to (offs_mono e2), h2, h3⟩
theorem Ev.tup (st : Stb l S) {ta : TA} (h : Eva S (AD l P n) ta σ) (hn : n ≤ 100000 := by decide) : Ev S (TD l P n) (tTup ta) σ := fun H Q s q => by
  refine h H _ s fun xs H1 e1 p1 => ?_
  obtain ⟨ds, h1, h2, h3⟩ := p1
  refine ⟨by rw [h1.len, sizeLine_eq]; omega, fun p hp => ?_⟩
  have np := st.new H1 p (st.keep _ _ s e1) hp
  have e2 := same_new' (o := .tup xs) hp
  exact q _ _ (e1.trans e2) ⟨p, xs, ds, rfl, offs_of np upd_same, h1.to (offs_mono e2), h2, h3⟩
theorem Ev.cat (st : Stb l S) {ta tb : TE} (h : Ev S (LD l P n) ta σ) (h' : Ev S (LD l P n') tb σ) (hn : n + n' ≤ 100000 := by decide) : Ev S (LD l P (n + n')) (tOp rCat ta tb) σ := fun H Q s q => by
  refine h H _ s fun x H1 e1 p1 => h' H1 _ (st.keep _ _ s e1) fun y H2 e2 p2 => ?_
  obtain ⟨p, vs, ds, rfl, a1, a2, a3, a4⟩ := p1.same e2
  obtain ⟨p', vs', ds', rfl, b1, b2, b3, b4⟩ := p2
  have h1 := a2.len
  have h2 := b2.len
  refine ⟨p, p', vs, vs', rfl, rfl, (offs_at a1).2, (offs_at b1).2, by rw [sizeLine_eq]; omega, fun r hr => ?_⟩
  have s2 := st.keep _ _ s (e1.trans e2)
  have nr := st.new H2 r s2 hr
  have e3 := same_new' (o := .lst (vs ++ vs')) hr
  exact q _ _ ((e1.trans e2).trans e3) ⟨r, _, ds ++ ds', rfl, offs_of nr upd_same, (a2.app b2).to (offs_mono e3), fun d hd => (List.mem_append.mp hd).elim (a3 d) (b3 d), by rw [List.length_append]; omega⟩
theorem Ev.catT (st : Stb l S) {ta tb : TE} (h : Ev S (TD l P n) ta σ) (h' : Ev S (TD l P n') tb σ) (hn : n + n' ≤ 100000 := by decide) : Ev S (TD l P (n + n')) (tOp (rCatA K) ta tb) σ := fun H Q s q => by
  refine h H _ s fun x H1 e1 p1 => h' H1 _ (st.keep _ _ s e1) fun y H2 e2 p2 => ?_
  obtain ⟨p, vs, ds, rfl, a1, a2, a3, a4⟩ := p1
  have a1 := offs_mono (l := l) e2 _ _ a1
  have a2 := a2.to (offs_mono e2)
  obtain ⟨p', vs', ds', rfl, b1, b2, b3, b4⟩ := p2
  have h1 := a2.len
  have h2 := b2.len
  refine ⟨p, p', vs, vs', rfl, rfl, .inl (.inl (offs_at a1).2), .inl (.inl (offs_at b1).2), by rw [sizeLine_eq]; omega, fun _ => ?_, fun _ _ => ?_, fun _ _ r hr => ?_⟩
  · exact q _ _ (e1.trans e2) ⟨p', vs', ds', rfl, b1, b2, b3, by omega⟩
  · exact q _ _ (e1.trans e2) ⟨p, vs, ds, rfl, a1, a2, a3, by omega⟩
  · have s2 := st.keep _ _ s (e1.trans e2)
    have nr := st.new H2 r s2 hr
    have e3 := same_new' (o := .tup (vs ++ vs')) hr
    exact q _ _ ((e1.trans e2).trans e3) ⟨r, _, ds ++ ds', rfl, offs_of nr upd_same, (a2.app b2).to (offs_mono e3), fun d hd => (List.mem_append.mp hd).elim (a3 d) (b3 d), by rw [List.length_append]; omega⟩
theorem DtAll.drop {H : Hp} : ∀ (i : Nat) {vs : List V} {ds : List PyData}, DtAll H vs ds → DtAll H (vs.drop i) (ds.drop i)
  | 0, _, _, h => h
  | _ + 1, _, _, .nil => .nil
  | i + 1, _, _, .cons _ r => DtAll.drop i r
theorem DtAll.take {H : Hp} : ∀ (i : Nat) {vs : List V} {ds : List PyData}, DtAll H vs ds → DtAll H (vs.take i) (ds.take i)
  | 0, _, _, _ => .nil
  | _ + 1, _, _, .nil => .nil
  | i + 1, _, _, .cons h r => .cons h (DtAll.take i r)
theorem cut_data {H : Hp} {vs : List V} {ds : List PyData} (h : DtAll H vs ds) (lo hi : Option Int) : ∃ es : List PyData, DtAll H (cutV vs lo hi) es ∧ (∀ d ∈ es, d ∈ ds) ∧ es.length ≤ ds.length := by
  unfold cutV
  refine ⟨_, DtAll.take _ (DtAll.drop _ h), fun d hd => List.mem_of_mem_drop (List.mem_of_mem_take hd), ?_⟩
  rw [List.length_take, List.length_drop]
  omega
theorem Ev.cut (st : Stb l S) {te : TE} {lo hi : TO} (h : Ev S (LD l P n) te σ) (h1 : Evo S lo σ) (h2 : Evo S hi σ) : Ev S (LD l P n) (L2.tSl (rSlL K) te lo hi) σ := fun H Q s q => by
  refine h H _ s fun x H1 e1 p1 => h1 H1 _ (st.keep _ _ s e1) fun i H2 e2 => h2 H2 _ (st.keep _ _ s (e1.trans e2)) fun j H3 e3 => ?_
  obtain ⟨p, vs, ds, rfl, a1, a2, a3, a4⟩ := p1.same (e2.trans e3)
  refine ⟨p, vs, rfl, .inl (.inl (offs_at a1).2), fun r hr => ?_⟩
  have e4 := e1.trans (e2.trans e3)
  have nr := st.new H3 r (st.keep _ _ s e4) hr
  have e5 := same_new' (o := .lst (cutV vs i j)) hr
  obtain ⟨es, c1, c2, c3⟩ := cut_data a2 i j
  exact q _ _ (e4.trans e5) ⟨r, _, es, rfl, offs_of nr upd_same, c1.to (offs_mono e5), fun d hd => a3 d (c2 d hd), by omega⟩
theorem Ev.cutT (st : Stb l S) {te : TE} {lo hi : TO} (h : Ev S (TD l P n) te σ) (h1 : Evo S lo σ) (h2 : Evo S hi σ) : Ev S (TD l P n) (L2.tSl (rSlA K) te lo hi) σ := fun H Q s q => by
  refine h H _ s fun x H1 e1 p1 => h1 H1 _ (st.keep _ _ s e1) fun i H2 e2 => h2 H2 _ (st.keep _ _ s (e1.trans e2)) fun j H3 e3 => ?_
  obtain ⟨p, vs, ds, rfl, a1, a2, a3, a4⟩ := p1
  have e23 := e2.trans e3
  have a1 := offs_mono (l := l) e23 _ _ a1
  have a2 := a2.to (offs_mono e23)
  have e4 := e1.trans (e2.trans e3)
  refine ⟨p, vs, rfl, .inl (.inl (offs_at a1).2), fun _ => q _ _ e4 ⟨p, vs, ds, rfl, a1, a2, a3, a4⟩, fun _ r hr => ?_⟩
  have nr := st.new H3 r (st.keep _ _ s e4) hr
  have e5 := same_new' (o := .tup (cutV vs i j)) hr
  obtain ⟨es, c1, c2, c3⟩ := cut_data a2 i j
  exact q _ _ (e4.trans e5) ⟨r, _, es, rfl, offs_of nr upd_same, c1.to (offs_mono e5), fun d hd => a3 d (c2 d hd), by omega⟩
theorem Evo.no : Evo S tNoPart σ := fun H Q _ q => q _ H (Same.refl H)
/-- an int -/
def I : Fi := fun x _ => ∃ i : Int, x = .int i
theorem Ev.intI (i : Int) : Ev S I (tC (.int i)) σ := fun H Q _ q => q _ H (Same.refl H) ⟨i, rfl⟩
theorem Ev.varI {i : Nat} {j : Int} (h : σ[i]? = some (some (.int j))) : Ev S I (tVar i) σ := fun H Q s q => ⟨_, h, q _ H (Same.refl H) ⟨j, rfl⟩⟩
theorem Evo.some {te : TE} (h : Ev S I te σ) : Evo S (tPart te) σ := fun H Q s q => h H _ s fun x H1 e1 p => by
  obtain ⟨i, rfl⟩ := p
  exact ⟨i, rfl, q _ H1 e1⟩
theorem Ev.listL (st : Stb l S) {te : TE} (h : Ev S (LD l P n) te σ) : Ev S (LD l P n) (tCB (rListK K) (tCons te tNil)) σ := fun H Q s q => by
  refine h H _ s fun x H1 e1 p1 => ?_
  obtain ⟨p, vs, ds, rfl, a1, a2, a3, a4⟩ := p1
  refine ⟨p, vs, rfl, .inl (.inl (.inl (offs_at a1).2)), fun r hr => ?_⟩
  have nr := st.new H1 r (st.keep _ _ s e1) hr
  have e5 := same_new' (o := .lst vs) hr
  exact q _ _ (e1.trans e5) ⟨r, _, ds, rfl, offs_of nr upd_same, a2.to (offs_mono e5), a3, a4⟩
theorem Ev.listT (st : Stb l S) {te : TE} (h : Ev S (TD l P n) te σ) : Ev S (LD l P n) (tCB (rListK K) (tCons te tNil)) σ := fun H Q s q => by
  refine h H _ s fun x H1 e1 p1 => ?_
  obtain ⟨p, vs, ds, rfl, a1, a2, a3, a4⟩ := p1
  refine ⟨p, vs, rfl, .inr (.inl (.inl (offs_at a1).2)), fun r hr => ?_⟩
  have nr := st.new H1 r (st.keep _ _ s e1) hr
  have e5 := same_new' (o := .lst vs) hr
  exact q _ _ (e1.trans e5) ⟨r, _, ds, rfl, offs_of nr upd_same, a2.to (offs_mono e5), a3, a4⟩
theorem Ev.tupL (st : Stb l S) {te : TE} (h : Ev S (LD l P n) te σ) : Ev S (TD l P n) (tCB (rTupK K) (tCons te tNil)) σ := fun H Q s q => by
  refine h H _ s fun x H1 e1 p1 => ?_
  obtain ⟨p, vs, ds, rfl, a1, a2, a3, a4⟩ := p1
  refine ⟨p, vs, rfl, .inl ⟨.inl (.inl (offs_at a1).2), fun r hr => ?_⟩⟩
  have nr := st.new H1 r (st.keep _ _ s e1) hr
  have e5 := same_new' (o := .tup vs) hr
  exact q _ _ (e1.trans e5) ⟨r, _, ds, rfl, offs_of nr upd_same, a2.to (offs_mono e5), a3, a4⟩
theorem Ev.len {te : TE} (h : Ev S (LD l (Bnd k b) n) te σ) (hn : n ≤ 100000 := by decide) : Ev S (D l (Bnd k' b')) (tCB (rLenK K) (tCons te tNil)) σ := fun H Q s q => by
  refine h H _ s fun x H1 e1 p1 => ?_
  obtain ⟨p, vs, ds, rfl, a1, a2, a3, a4⟩ := p1
  have := a2.len
  exact ⟨p, vs, rfl, .inl (.inl (.inl (offs_at a1).2)), q _ _ e1 ⟨_, .int _, .int (by omega)⟩⟩
theorem Ev.rep (st : Stb l S) {ta : TE} {j : Nat} (h : Ev S (LD l P n) ta σ) (hj : n * j ≤ 100000 := by decide) (hj2 : j ≤ 1000 := by decide) : Ev S (LD l P (n * j)) (tOp rRep ta (tC (.int (j : Int)))) σ := fun H Q s q => by
  refine h H _ s fun x H1 e1 p1 => ?_
  obtain ⟨p, vs, ds, rfl, a1, a2, a3, a4⟩ := p1
  have hl := a2.len
  have hm : ds.length * j ≤ n * j := Nat.mul_le_mul_right j a4
  refine ⟨p, j, vs, rfl, rfl, (offs_at a1).2, by omega, by omega, by rw [hl, Int.toNat_natCast, sizeLine_eq]; omega, fun r hr => ?_⟩
  have nr := st.new H1 r (st.keep _ _ s e1) hr
  have e5 := same_new' (o := .lst (List.replicate (j : Int).toNat vs).flatten) hr
  have key : ∀ m : Nat, DtAll (offs l H1) (List.replicate m vs).flatten (List.replicate m ds).flatten := by
    intro m
    induction m with
    | zero => exact .nil
    | succ m ih =>
      rw [List.replicate_succ, List.replicate_succ, List.flatten_cons, List.flatten_cons]
      exact a2.app ih
  refine q _ _ (e1.trans e5) ⟨r, _, (List.replicate j ds).flatten, rfl, offs_of nr upd_same, ?_, fun d hd => ?_, ?_⟩
  · rw [Int.toNat_natCast]
    exact (key j).to (offs_mono (by rw [Int.toNat_natCast] at e5; exact e5))
  · obtain ⟨m, hm1, hm2⟩ := List.mem_flatten.mp hd
    rw [List.eq_of_mem_replicate hm1] at hm2
    exact a3 d hm2
  · rw [List.length_flatten, List.map_replicate, List.sum_replicate_nat, Nat.mul_comm]
    exact hm
end
end Hw
namespace Hw
open PySem PySem.Spec PyProof.Rows L2
/-! ### statements, read one by one -/
def iAt (J : It) : TI := fun _ H R => R J H
section
variable {K : PySem.W.Frag} {te : TE} {g : TG} {tb t u : TS} {d : Ends} {σ : L2.St} {H : Hp} {i : Nat}
theorem forL (h : te σ H fun x H1 => ∃ a, x = .ref a ∧ (∃ xs, SqL K H1 a xs) ∧ tFor (iAt (Itl K a)) g tb d σ H1) : tFor (iList K te) g tb d σ H := h
theorem seqL (h : t { d with nx := u d } σ H) : tSeq t u d σ H := h
theorem setL (h : te σ H fun x H1 => d.nx (σ.set i (some x)) H1) : tAsg te (gName i) d σ H := h
theorem setNil (h : ∀ p, H p = none → d.nx (σ.set i (some (.ref p))) (upd H p (.lst []))) : tAsg (tLst tNil) (gName i) d σ H := ⟨Nat.zero_le _, h⟩
theorem retL (h : te σ H d.rt) : tRet te d σ H := h
end
end Hw
namespace Hw
open PySem PySem.Spec PyProof.Rows L2
section
variable {X : Cx} {K : PySem.W.Frag}
theorem pi_enumK {e : Expr} {ta : TA} {p pos tpos : Pos} {elts : List Expr} {kk : Nat} (h : X.K = K) (hg : Gl X "enumerate") (hm : X.mg "enumerate" = none) (ha : PA X [e] ta) (hs : starEach [e] X.env = [(false, eval e X.env)] := by rfl) :
    PI X (.Tuple elts kk tpos) (.Call (.Name "enumerate" p) [e] [] pos) (iEnum K ta) := by
  subst h
  exact pi_enum hg hm ha hs
theorem pi_listK {tg : Expr} {l : Expr} {tl : TE} (h : X.K = K) (hl : PE X l tl) : PI X tg l (iList K tl) := by
  subst h
  exact pi_list hl
end
end Hw
namespace Hw
open PySem PySem.Spec PyProof.Rows L2
/-! ### literals, told exactly -/
def Ed (d : PyData) : Fi := fun x H => Dt H x d
def Eda (ds : List PyData) : List V → Hp → Prop := fun xs H => DtAll H xs ds
abbrev Tr : Hp → Prop := fun _ => True
section
variable {σ : L2.St} {ds : List PyData} {d : PyData} {te : TE} {ta : TA} {i j : Nat} {e : Ends} {H : Hp}
theorem Ev.eint (i : Int) : Ev Tr (Ed (.int i)) (tC (.int i)) σ := fun H Q _ q => q _ H (Same.refl H) (.int i)
theorem Ev.ebl (b : Bool) : Ev Tr (Ed (.bool b)) (tC (.bl b)) σ := fun H Q _ q => q _ H (Same.refl H) (.bl b)
theorem Ev.estr (x : Str) : Ev Tr (Ed (.str x)) (tC (.str x)) σ := fun H Q _ q => q _ H (Same.refl H) (.str x)
theorem Ev.enon : Ev Tr (Ed .none) (tC .non) σ := fun H Q _ q => q _ H (Same.refl H) .non
theorem Eva.enil : Eva Tr (Eda []) tNil σ := fun H Q _ q => q _ H (Same.refl H) .nil
theorem Eva.econs (h : Ev Tr (Ed d) te σ) (r : Eva Tr (Eda ds) ta σ) : Eva Tr (Eda (d :: ds)) (tCons te ta) σ := fun H Q s q => h H _ s fun x H1 e1 p1 => r H1 _ s fun xs H2 e2 p2 => q _ H2 (e1.trans e2) (.cons (Dt.to p1 e2) p2)
theorem Ev.elst (h : Eva Tr (Eda ds) ta σ) (hn : ds.length ≤ 100000 := by decide) : Ev Tr (Ed (.list ds)) (tLst ta) σ := fun H Q s q => h H _ s fun xs H1 e1 p1 => by
  have p1 : DtAll H1 xs ds := p1
  refine ⟨by rw [p1.len, sizeLine_eq]; omega, fun p hp => ?_⟩
  have e2 := same_new' (o := .lst xs) hp
  exact q _ _ (e1.trans e2) (Dt.lst upd_same (p1.to e2))
theorem Ev.etup (h : Eva Tr (Eda ds) ta σ) (hn : ds.length ≤ 100000 := by decide) : Ev Tr (Ed (.tuple ds)) (tTup ta) σ := fun H Q s q => h H _ s fun xs H1 e1 p1 => by
  have p1 : DtAll H1 xs ds := p1
  refine ⟨by rw [p1.len, sizeLine_eq]; omega, fun p hp => ?_⟩
  have e2 := same_new' (o := .tup xs) hp
  exact q _ _ (e1.trans e2) (Dt.tup upd_same (p1.to e2))
theorem parL (h : ta σ H fun vs H1 => ∃ v w, vs = [v, w] ∧ e.nx ((σ.set i (some v)).set j (some w)) H1) : tPar i j ta e σ H := h
theorem Dt.nats_at {x : V} {l : List Nat} (h : Dt H x (.list (natD l))) : ∃ a, x = .ref a ∧ H a = some (.lst (natV l)) := by
  cases h with
  | @lst a xs _ ha hs =>
    have e := DtAll.nats_inv _ _ hs
    subst e
    exact ⟨a, rfl, ha⟩
theorem natV_rep (n x : Nat) : (List.replicate n [V.int (x : Int)]).flatten = natV (List.replicate n x) := by
  unfold natV
  rw [List.map_replicate]
  induction n with
  | zero => rfl
  | succ n ih => rw [List.replicate_succ, List.flatten_cons, ih, List.replicate_succ]; rfl
theorem natV_rep2 (n x y : Nat) : (List.replicate n [V.int (x : Int), .int (y : Int)]).flatten = natV (List.replicate n [x, y]).flatten := by
  unfold natV
  rw [List.map_flatten, List.map_replicate]
  rfl
end
end Hw

set_option Elab.async false
set_option linter.all false
/-! sets of widths: a list ahead and a turn; their plain form -/
namespace Hw
/-- the item at a width -/
def itemW (A T : List Bool) (w : Nat) : Bool := if w < A.length then A.getD w false else T.getD ((w - A.length) % T.length) false
/-- from n on the same at p more -/
def EvP (f : Nat → Bool) (n p : Nat) : Prop := ∀ w, n ≤ w → f (w + p) = f w
theorem EvP.mono {f : Nat → Bool} {n m p : Nat} (h : EvP f n p) (hm : n ≤ m) : EvP f m p := fun w hw => h w (by omega)
theorem EvP.mul {f : Nat → Bool} {n p : Nat} (h : EvP f n p) : ∀ k, EvP f n (p * k)
  | 0, w, _ => by rw [Nat.mul_zero, Nat.add_zero]
  | k + 1, w, hw => by
    rw [Nat.mul_succ, ← Nat.add_assoc, h _ (by omega)]
    exact EvP.mul h k w hw
theorem EvP.rest {f : Nat → Bool} {n p q : Nat} (h : EvP f n p) (h2 : EvP f n q) : EvP f n (q % p) := fun w hw => by
  have e := Nat.div_add_mod q p
  have a := h.mul (q / p) (w + q % p) (by omega)
  have b := h2 w hw
  rw [← a, ← b]
  congr 1
  omega
theorem EvP.gcd {f : Nat → Bool} {n : Nat} (p q : Nat) : EvP f n p → EvP f n q → EvP f n (Nat.gcd p q) := by
  induction p, q using Nat.gcd.induction with
  | H0 q => intro _ h; rw [Nat.gcd_zero_left]; exact h
  | H1 p q _ ih =>
    intro h1 h2
    rw [Nat.gcd_rec]
    exact ih (h1.rest h2) h1
theorem getD_lt {l : List Bool} {i : Nat} (h : i < l.length) : l.getD i false = l[i] := by
  rw [List.getD_eq_getElem?_getD, List.getElem?_eq_getElem h]
  rfl
theorem ext_getD {l m : List Bool} (hl : l.length = m.length) (h : ∀ i, i < l.length → l.getD i false = m.getD i false) : l = m := by
  apply List.ext_getElem hl
  intro i h1 h2
  have := h i h1
  rw [getD_lt h1, getD_lt h2] at this
  exact this
theorem item_lt {A T : List Bool} {w : Nat} (h : w < A.length) : itemW A T w = A.getD w false := if_pos h
theorem item_ge {A T : List Bool} (i : Nat) : itemW A T (A.length + i) = T.getD (i % T.length) false := by
  unfold itemW
  rw [if_neg (by omega), Nat.add_sub_cancel_left]
theorem item_ge' {A T : List Bool} {w : Nat} (h : A.length ≤ w) : itemW A T w = T.getD ((w - A.length) % T.length) false := if_neg (by omega)
theorem evp_item (A T : List Bool) : EvP (itemW A T) A.length T.length := fun w hw => by
  rw [item_ge' hw, item_ge' (by omega), show w + T.length - A.length = (w - A.length) + T.length by omega, Nat.add_mod_right]
/-- the plain form of a set -/
structure PlainOf (f : Nat → Bool) (A T : List Bool) : Prop where
  some : 0 < T.length
  is : ∀ w, itemW A T w = f w
  last : 0 < A.length → A.getD (A.length - 1) false ≠ T.getD (T.length - 1) false
  least : ∀ n p, 0 < p → EvP f n p → T.length ≤ p
theorem PlainOf.per {f : Nat → Bool} {A T : List Bool} (h : PlainOf f A T) : EvP f A.length T.length := fun w hw => by
  rw [← h.is, ← h.is]
  exact evp_item A T w hw
theorem PlainOf.ahead {f : Nat → Bool} {A T A' T' : List Bool} (h : PlainOf f A T) (h' : PlainOf f A' T') (e : T.length = T'.length) : A'.length ≤ A.length := by
  refine Nat.le_of_not_lt fun lt => ?_
  have a := h.per (A'.length - 1) (by omega)
  have b := h'.last (by omega)
  rw [← item_lt (T := T') (show A'.length - 1 < A'.length by omega), h'.is, ← a, ← h'.is, show A'.length - 1 + T.length = A'.length + (T'.length - 1) by have := h.some; omega, item_ge, Nat.mod_eq_of_lt (by have := h'.some; omega)] at b
  exact b rfl
theorem PlainOf.uniq {f : Nat → Bool} {A T A' T' : List Bool} (h : PlainOf f A T) (h' : PlainOf f A' T') : A = A' ∧ T = T' := by
  have e : T.length = T'.length := Nat.le_antisymm (h.least _ _ h'.some h'.per) (h'.least _ _ h.some h.per)
  have ea : A.length = A'.length := Nat.le_antisymm (h'.ahead h e.symm) (h.ahead h' e)
  refine ⟨ext_getD ea fun i hi => ?_, ext_getD e fun i hi => ?_⟩
  · rw [← item_lt (T := T) hi, ← item_lt (T := T') (by omega), h.is, h'.is]
  · have a := item_ge (A := A) (T := T) i
    have b := item_ge (A := A') (T := T') i
    rw [Nat.mod_eq_of_lt hi] at a
    rw [Nat.mod_eq_of_lt (by omega)] at b
    rw [← a, ← b, h.is, h'.is, ea]
/-! the shortest turn -/
/-- a shorter list repeated -/
def Per (T : List Bool) (s : Nat) : Prop := T.length % s = 0 ∧ ∀ i, i < T.length → T.getD i false = T.getD (i % s) false
instance (T : List Bool) (s : Nat) : Decidable (Per T s) := inferInstanceAs (Decidable (_ ∧ _))
theorem Per.all (T : List Bool) : Per T T.length := ⟨Nat.mod_self _, fun i hi => by rw [Nat.mod_eq_of_lt hi]⟩
theorem getD_take {l : List Bool} {n i : Nat} (h : i < n) : (l.take n).getD i false = l.getD i false := by
  rw [List.getD_eq_getElem?_getD, List.getD_eq_getElem?_getD, List.getElem?_take, if_pos h]
theorem getD_drop {l : List Bool} {n i : Nat} : (l.drop n).getD i false = l.getD (n + i) false := by
  rw [List.getD_eq_getElem?_getD, List.getD_eq_getElem?_getD, List.getElem?_drop]
theorem Per.item {A T : List Bool} {s : Nat} (h : Per T s) (hs : 0 < s) (ht : s ≤ T.length) (w : Nat) : itemW A (T.take s) w = itemW A T w := by
  by_cases hw : w < A.length
  · rw [item_lt hw, item_lt hw]
  · have hw : A.length ≤ w := by omega
    rw [item_ge' hw, item_ge' hw, List.length_take, Nat.min_eq_left ht, getD_take (Nat.mod_lt _ hs), h.2 _ (Nat.mod_lt _ (by omega)), Nat.mod_mod_of_dvd _ (Nat.dvd_of_mod_eq_zero h.1)]
/-- a turn that is told by a shorter one for some number, is one by this number's part that goes into it -/
theorem per_of_ev {A T : List Bool} {n p : Nat} (h0 : 0 < T.length) (hp : 0 < p) (h : EvP (itemW A T) n p) : ∃ d, 0 < d ∧ d ≤ p ∧ d ≤ T.length ∧ Per T d := by
  let N := max n A.length
  have e1 : EvP (itemW A T) N p := h.mono (Nat.le_max_left ..)
  have e2 : EvP (itemW A T) N T.length := (evp_item A T).mono (Nat.le_max_right ..)
  have e := EvP.gcd _ _ e1 e2
  have d0 : 0 < Nat.gcd p T.length := Nat.gcd_pos_of_pos_left _ hp
  refine ⟨Nat.gcd p T.length, d0, Nat.gcd_le_left _ hp, Nat.gcd_le_right _ h0, Nat.mod_eq_zero_of_dvd (Nat.gcd_dvd_right ..), fun i hi => ?_⟩
  revert e d0
  generalize Nat.gcd p T.length = d
  intro e d0
  have hN : A.length ≤ N := Nat.le_max_right ..
  have big : N ≤ T.length * N := Nat.le_mul_of_pos_left N h0
  have a := item_ge (A := A) (T := T) (i + T.length * N)
  have b := item_ge (A := A) (T := T) (i % d + T.length * N)
  have il : i % d ≤ i := Nat.mod_le _ _
  rw [Nat.add_mul_mod_self_left, Nat.mod_eq_of_lt hi] at a
  rw [Nat.add_mul_mod_self_left, Nat.mod_eq_of_lt (show i % d < T.length by omega)] at b
  rw [← a, ← b, ← e.mul (i / d) (A.length + (i % d + T.length * N)) (by omega)]
  have := Nat.div_add_mod i d
  congr 1
  omega
/-- the least length of a list that is repeated -/
def leastS (T : List Bool) : Nat := ((List.range' 1 T.length).find? fun s => decide (Per T s)).getD T.length
structure Least (T : List Bool) (s : Nat) : Prop where
  pos : 0 < s
  le : s ≤ T.length
  per : Per T s
  min : ∀ r, 0 < r → r < s → ¬ Per T r
theorem Least.uniq {T : List Bool} {s r : Nat} (h : Least T s) (k : Least T r) : s = r := by
  refine Nat.le_antisymm (Nat.le_of_not_lt fun z => ?_) (Nat.le_of_not_lt fun z => ?_)
  · exact h.min r k.pos z k.per
  · exact k.min s h.pos z h.per
theorem least_ok {T : List Bool} (h : 0 < T.length) : Least T (leastS T) := by
  unfold leastS
  cases e : (List.range' 1 T.length).find? fun s => decide (Per T s) with
  | none =>
    have := List.find?_eq_none.mp e T.length (List.mem_range'_1.mpr (by omega))
    exact absurd (Per.all T) (by simpa using this)
  | some s =>
    obtain ⟨h1, as, bs, h2, h3⟩ := List.find?_eq_some_iff_append.mp e
    have hm : s ∈ List.range' 1 T.length := by rw [h2]; simp
    have hm := List.mem_range'_1.mp hm
    refine ⟨by show 0 < s; omega, by show s ≤ _; omega, by simpa using h1, fun r r0 r1 pr => ?_⟩
    have r1 : r < s := r1
    have hr : r ∈ List.range' 1 T.length := List.mem_range'_1.mpr (by omega)
    rw [h2] at hr
    rcases List.mem_append.mp hr with q | q
    · have := h3 r q
      simp [pr] at this
    · have srt : (as ++ s :: bs).Pairwise (· < ·) := by rw [← h2]; exact List.pairwise_lt_range'
      have := (List.pairwise_append.mp srt).2.1
      rcases List.mem_cons.mp q with z | z
      · omega
      · have := (List.pairwise_cons.mp this).1 r z
        omega
/-- a form that is not yet plain: the end of the list ahead may be moved into the turn -/
structure Half (f : Nat → Bool) (A T : List Bool) : Prop where
  some : 0 < T.length
  is : ∀ w, itemW A T w = f w
  least : ∀ n p, 0 < p → EvP f n p → T.length ≤ p
theorem half_of {A T : List Bool} {s : Nat} (h : Least T s) : Half (itemW A T) A (T.take s) := by
  have e : (T.take s).length = s := by rw [List.length_take, Nat.min_eq_left h.le]
  refine ⟨by rw [e]; exact h.pos, h.per.item h.pos h.le, fun n p hp q => ?_⟩
  obtain ⟨d, d0, d1, d2, d3⟩ := per_of_ev (by have := h.pos; have := h.le; omega) hp q
  rw [e]
  refine Nat.le_trans (Nat.le_of_not_lt fun z => h.min d d0 z d3) d1
theorem item_step (A T : List Bool) (b : Bool) (w : Nat) : itemW (A ++ [b]) (T ++ [b]) w = itemW A (b :: T) w := by
  by_cases h : w < A.length
  · rw [item_lt h, item_lt (by rw [List.length_append]; omega), List.getD_eq_getElem?_getD, List.getElem?_append_left h, ← List.getD_eq_getElem?_getD]
  · by_cases h2 : w = A.length
    · subst h2
      rw [item_lt (by rw [List.length_append]; show _ < _ + 1; omega), show A.length = A.length + 0 from rfl, item_ge (A := A), Nat.zero_mod, List.getD_eq_getElem?_getD, Nat.add_zero, List.getElem?_append_right (Nat.le_refl _), Nat.sub_self]
      rfl
    · obtain ⟨i, rfl⟩ : ∃ i, w = A.length + (i + 1) := ⟨w - A.length - 1, by omega⟩
      have e1 := item_ge (A := A ++ [b]) (T := T ++ [b]) i
      have l1 : (A ++ [b]).length = A.length + 1 := by rw [List.length_append]; rfl
      have l2 : (T ++ [b]).length = T.length + 1 := by rw [List.length_append]; rfl
      rw [l1, show A.length + 1 + i = A.length + (i + 1) by omega, l2] at e1
      rw [e1, item_ge, List.length_cons]
      have hm : i % (T.length + 1) < T.length + 1 := Nat.mod_lt _ (by omega)
      rw [Nat.add_mod i 1]
      by_cases hl : i % (T.length + 1) = T.length
      · rw [hl]
        cases T with
        | nil => rfl
        | cons c T =>
          rw [show 1 % ((c :: T).length + 1) = 1 from Nat.mod_eq_of_lt (by rw [List.length_cons]; omega), Nat.mod_self, List.getD_eq_getElem?_getD, List.getElem?_append_right (Nat.le_refl _), Nat.sub_self]
          rfl
      · cases T with
        | nil => simp only [List.length_nil] at hl hm; omega
        | cons c T =>
          rw [show 1 % ((c :: T).length + 1) = 1 from Nat.mod_eq_of_lt (by rw [List.length_cons]; omega), Nat.mod_eq_of_lt (show i % ((c :: T).length + 1) + 1 < (c :: T).length + 1 by omega), List.getD_eq_getElem?_getD, List.getElem?_append_left (by omega)]
          rw [List.getD_eq_getElem?_getD, List.getElem?_cons_succ]
/-- one step of the law's: the last item of the list ahead, if it is the turn's, goes into the turn -/
def stepW (p : List Bool × List Bool) : List Bool × List Bool :=
  if p.1.length = 0 then p else if p.1.getD (p.1.length - 1) false = p.2.getD (p.2.length - 1) false then (p.1.take (p.1.length - 1), p.2.drop (p.2.length - 1) ++ p.2.take (p.2.length - 1)) else p
def stepsW : Nat → List Bool × List Bool → List Bool × List Bool
  | 0, p => p
  | n + 1, p => stepsW n (stepW p)
def plainF (A T : List Bool) : List Bool × List Bool := stepsW A.length (A, T.take (leastS T))
theorem take_last {l : List Bool} (h : 0 < l.length) : l = l.take (l.length - 1) ++ [l.getD (l.length - 1) false] := by
  have e := List.take_append_drop (l.length - 1) l
  have d : l.drop (l.length - 1) = [l.getD (l.length - 1) false] := by
    apply ext_getD
    · rw [List.length_drop]; show _ = 1; omega
    · intro i hi
      rw [List.length_drop] at hi
      have : i = 0 := by omega
      subst this
      rw [getD_drop]
      rfl
  rw [← d]
  exact e.symm
theorem Half.step {f : Nat → Bool} {p : List Bool × List Bool} (h : Half f p.1 p.2) : Half f (stepW p).1 (stepW p).2 := by
  unfold stepW
  by_cases h0 : p.1.length = 0
  · rw [if_pos h0]; exact h
  rw [if_neg h0]
  by_cases h1 : p.1.getD (p.1.length - 1) false = p.2.getD (p.2.length - 1) false
  · rw [if_pos h1]
    obtain ⟨A, T⟩ := p
    have hs := h.some
    have ha := take_last (l := A) (by show 0 < A.length; exact Nat.pos_of_ne_zero h0)
    have ht := take_last (l := T) hs
    have hd : T.drop (T.length - 1) = [T.getD (T.length - 1) false] := by
      have e := List.take_append_drop (T.length - 1) T
      exact List.append_cancel_left (e.trans ht)
    have is := h.is
    simp only at h1 ha ht is hs ⊢
    have ll : (T.drop (T.length - 1) ++ T.take (T.length - 1)).length = T.length := by
      rw [List.length_append, List.length_drop, List.length_take]; omega
    refine ⟨by rw [ll]; exact hs, fun w => ?_, fun n q hq e => by rw [ll]; exact h.least n q hq e⟩
    rw [← is w, hd, List.singleton_append]
    rw [← item_step, ← ht, ← h1, ← ha]
  · rw [if_neg h1]; exact h
theorem Half.steps {f : Nat → Bool} : ∀ (n : Nat) {p : List Bool × List Bool}, Half f p.1 p.2 → Half f (stepsW n p).1 (stepsW n p).2
  | 0, _, h => h
  | n + 1, _, h => Half.steps n h.step
/-- the steps are at their end -/
def Done (p : List Bool × List Bool) : Prop := 0 < p.1.length → p.1.getD (p.1.length - 1) false ≠ p.2.getD (p.2.length - 1) false
theorem stepW_done {p : List Bool × List Bool} (h : Done p) : stepW p = p := by
  unfold stepW
  by_cases h0 : p.1.length = 0
  · rw [if_pos h0]
  · rw [if_neg h0, if_neg (h (by omega))]
theorem stepsW_done : ∀ (n : Nat) {p : List Bool × List Bool}, Done p → stepsW n p = p
  | 0, _, _ => rfl
  | n + 1, p, h => by
    show stepsW n (stepW p) = p
    rw [stepW_done h]
    exact stepsW_done n h
theorem steps_end : ∀ (n : Nat) (p : List Bool × List Bool), p.1.length ≤ n → Done (stepsW n p)
  | 0, p, h => fun z => by
    have z : 0 < p.1.length := z
    omega
  | n + 1, p, h => by
    by_cases hd : Done p
    · rw [stepsW_done _ hd]; exact hd
    · refine steps_end n (stepW p) ?_
      have h0 : ¬ p.1.length = 0 := fun z => hd fun y => by omega
      have h1 : p.1.getD (p.1.length - 1) false = p.2.getD (p.2.length - 1) false := Decidable.byContradiction fun z => hd fun _ => z
      unfold stepW
      rw [if_neg h0, if_pos h1]
      show (p.1.take (p.1.length - 1)).length ≤ n
      rw [List.length_take]
      omega
theorem plainF_ok {A T : List Bool} (h : 0 < T.length) : PlainOf (itemW A T) (plainF A T).1 (plainF A T).2 := by
  have l := least_ok h
  have k : Half (itemW A T) (plainF A T).1 (plainF A T).2 := Half.steps A.length (half_of (A := A) l)
  exact ⟨k.some, k.is, steps_end A.length _ (Nat.le_refl _), k.least⟩
theorem plainF_of {A T A' T' : List Bool} (h : 0 < T.length) (k : PlainOf (itemW A T) A' T') : plainF A T = (A', T') := by
  obtain ⟨a, b⟩ := (plainF_ok h).uniq k
  exact Prod.ext a b
theorem plainF_congr {A T A' T' : List Bool} (h : 0 < T.length) (h' : 0 < T'.length) (e : ∀ w, itemW A T w = itemW A' T' w) : plainF A T = plainF A' T' := by
  have q := plainF_ok (A := A') h'
  rw [← funext e] at q
  exact plainF_of h q
theorem plainF_item {A T : List Bool} (h : 0 < T.length) (w : Nat) : itemW (plainF A T).1 (plainF A T).2 w = itemW A T w := (plainF_ok h).is w
theorem plainF_pos {A T : List Bool} (h : 0 < T.length) : 0 < (plainF A T).2.length := (plainF_ok h).some
theorem plainF_twice {A T : List Bool} (h : 0 < T.length) : plainF (plainF A T).1 (plainF A T).2 = plainF A T := plainF_congr (plainF_pos h) h (plainF_item h)
theorem stepW_len (p : List Bool × List Bool) : (stepW p).1.length ≤ p.1.length ∧ (stepW p).2.length = p.2.length := by
  unfold stepW
  split
  · exact ⟨Nat.le_refl _, rfl⟩
  split
  · refine ⟨?_, ?_⟩
    · show (p.1.take _).length ≤ _
      rw [List.length_take]; omega
    · show (p.2.drop _ ++ p.2.take _).length = _
      rw [List.length_append, List.length_drop, List.length_take]; omega
  · exact ⟨Nat.le_refl _, rfl⟩
theorem stepsW_len : ∀ (n : Nat) (p : List Bool × List Bool), (stepsW n p).1.length ≤ p.1.length ∧ (stepsW n p).2.length = p.2.length
  | 0, _ => ⟨Nat.le_refl _, rfl⟩
  | n + 1, p => by
    obtain ⟨a, b⟩ := stepW_len p
    obtain ⟨c, d⟩ := stepsW_len n (stepW p)
    exact ⟨Nat.le_trans c a, d.trans b⟩
theorem plainF_len (A T : List Bool) : (plainF A T).1.length ≤ A.length ∧ (plainF A T).2.length ≤ T.length := by
  obtain ⟨a, b⟩ := stepsW_len A.length (A, T.take (leastS T))
  refine ⟨a, ?_⟩
  show (stepsW A.length (A, T.take (leastS T))).2.length ≤ _
  rw [b]
  show (T.take _).length ≤ _
  rw [List.length_take]; omega
/-! the program's way: how many items are moved, then all at once -/
theorem rot_getD {T : List Bool} {b i : Nat} (hb : b ≤ T.length) (hi : i < T.length) : (T.drop b ++ T.take b).getD i false = T.getD ((b + i) % T.length) false := by
  by_cases h : i < T.length - b
  · rw [List.getD_eq_getElem?_getD, List.getElem?_append_left (by rw [List.length_drop]; exact h), ← List.getD_eq_getElem?_getD, getD_drop, Nat.mod_eq_of_lt (by omega)]
  · rw [List.getD_eq_getElem?_getD, List.getElem?_append_right (by rw [List.length_drop]; omega), ← List.getD_eq_getElem?_getD, List.length_drop, getD_take (by omega), show b + i = (i - (T.length - b)) + T.length by omega, Nat.add_mod_right, Nat.mod_eq_of_lt (by omega)]
theorem moved {f : Nat → Bool} {A T : List Bool} {l : Nat} (h : Half f A T) (hl : l ≤ A.length) (same : ∀ j, j < l → A.getD (A.length - 1 - j) false = T.getD (T.length - 1 - j % T.length) false)
    (stop : l < A.length → A.getD (A.length - 1 - l) false ≠ T.getD (T.length - 1 - l % T.length) false) :
    PlainOf f (A.take (A.length - l)) (T.drop (T.length - l % T.length) ++ T.take (T.length - l % T.length)) := by
  have m0 := h.some
  have lm := Nat.mod_lt l m0
  have len : (T.drop (T.length - l % T.length) ++ T.take (T.length - l % T.length)).length = T.length := by
    rw [List.length_append, List.length_drop, List.length_take]; omega
  have la : (A.take (A.length - l)).length = A.length - l := by rw [List.length_take]; omega
  have ql := Nat.div_add_mod l T.length
  refine ⟨by rw [len]; exact m0, fun w => ?_, fun h0 => ?_, fun n p hp e => by rw [len]; exact h.least n p hp e⟩
  · rw [← h.is w]
    by_cases w1 : w < A.length - l
    · rw [item_lt (by rw [la]; exact w1), getD_take w1, item_lt (by omega)]
    · rw [item_ge' (by rw [la]; omega), la, len, rot_getD (by omega) (Nat.mod_lt _ m0), Nat.add_mod_mod]
      by_cases w2 : w < A.length
      · rw [item_lt w2]
        obtain ⟨j, rfl⟩ : ∃ j, w = A.length - 1 - j := ⟨A.length - 1 - w, by omega⟩
        by_cases jz : A.length - 1 < j
        · obtain ⟨j', h1, h2⟩ : ∃ j', j' = A.length - 1 ∧ A.length - 1 - j = A.length - 1 - j' := ⟨A.length - 1, rfl, by omega⟩
          rw [h2] at w1 w2 ⊢
          have hj : j' < l := by omega
          rw [same j' hj]
          congr 1
          have qj := Nat.div_add_mod j' T.length
          have mj := Nat.mod_lt j' m0
          have le : j' / T.length ≤ l / T.length := Nat.div_le_div_right (by omega)
          have e : T.length - l % T.length + (A.length - 1 - j' - (A.length - l)) = (T.length - 1 - j' % T.length) + T.length * (l / T.length - j' / T.length) := by
            rw [Nat.mul_sub]
            have := Nat.mul_le_mul_left T.length le
            omega
          rw [e, Nat.add_mul_mod_self_left, Nat.mod_eq_of_lt (by omega)]
        · have hj : j < l := by omega
          rw [same j hj]
          congr 1
          have qj := Nat.div_add_mod j T.length
          have mj := Nat.mod_lt j m0
          have le : j / T.length ≤ l / T.length := Nat.div_le_div_right (by omega)
          have e : T.length - l % T.length + (A.length - 1 - j - (A.length - l)) = (T.length - 1 - j % T.length) + T.length * (l / T.length - j / T.length) := by
            rw [Nat.mul_sub]
            have := Nat.mul_le_mul_left T.length le
            omega
          rw [e, Nat.add_mul_mod_self_left, Nat.mod_eq_of_lt (by omega)]
      · rw [item_ge' (by omega)]
        congr 1
        have e : T.length - l % T.length + (w - (A.length - l)) = (w - A.length) + T.length * (l / T.length + 1) := by
          rw [Nat.mul_succ]
          omega
        rw [e, Nat.add_mul_mod_self_left]
  · rw [la] at h0 ⊢
    rw [len, getD_take (by omega), rot_getD (by omega) (by omega)]
    have s := stop (by omega)
    rw [show T.length - l % T.length + (T.length - 1) = (T.length - 1 - l % T.length) + T.length by omega, Nat.add_mod_right, Nat.mod_eq_of_lt (by omega)]
    rw [show A.length - l - 1 = A.length - 1 - l by omega]
    exact s
/-- the two ways to ask whether a shorter list is repeated -/
theorem per_iff {T : List Bool} {s : Nat} (hs : 0 < s) (hl : s ≤ T.length) : Per T s ↔ T.length % s = 0 ∧ T.drop s = T.take (T.length - s) := by
  refine and_congr_right fun hd => ⟨fun h => ?_, fun h => ?_⟩
  · apply ext_getD
    · rw [List.length_drop, List.length_take]; omega
    · intro i hi
      rw [List.length_drop] at hi
      rw [getD_drop, getD_take hi, h _ (by omega), h i (by omega), Nat.add_mod_left]
  · intro i
    induction i using Nat.strongRecOn with
    | _ i ih =>
      intro hi
      by_cases h1 : i < s
      · rw [Nat.mod_eq_of_lt h1]
      · have e : (T.drop s).getD (i - s) false = (T.take (T.length - s)).getD (i - s) false := by rw [h]
        rw [getD_drop, getD_take (by omega), show s + (i - s) = i by omega] at e
        rw [e, ih (i - s) (by omega) (by omega), Nat.mod_eq_sub_mod (show s ≤ i by omega)]
theorem getD_rep {T : List Bool} : ∀ (k i : Nat), i < k * T.length → (List.replicate k T).flatten.getD i false = T.getD (i % T.length) false
  | 0, i, h => by omega
  | k + 1, i, h => by
    rw [List.replicate_succ, List.flatten_cons]
    by_cases h1 : i < T.length
    · rw [List.getD_eq_getElem?_getD, List.getElem?_append_left h1, ← List.getD_eq_getElem?_getD, Nat.mod_eq_of_lt h1]
    · rw [List.getD_eq_getElem?_getD, List.getElem?_append_right (by omega), ← List.getD_eq_getElem?_getD, getD_rep k (i - T.length) (by rw [Nat.succ_mul] at h; omega), ← Nat.mod_eq_sub_mod (by omega)]
theorem len_rep {T : List Bool} (k : Nat) : (List.replicate k T).flatten.length = k * T.length := by
  rw [List.length_flatten, List.map_replicate, List.sum_replicate_nat]
theorem per_iff_rep {T : List Bool} {s : Nat} (hs : 0 < s) (hl : s ≤ T.length) (hd : T.length % s = 0) : Per T s ↔ T = (List.replicate (T.length / s) (T.take s)).flatten := by
  have lt : (T.take s).length = s := by rw [List.length_take]; omega
  have e : T.length / s * s = T.length := Nat.div_mul_cancel (Nat.dvd_of_mod_eq_zero hd)
  have g : ∀ i, i < T.length → (List.replicate (T.length / s) (T.take s)).flatten.getD i false = T.getD (i % s) false := fun i hi => by
    rw [getD_rep _ _ (by rw [lt, e]; exact hi), lt, getD_take (Nat.mod_lt _ hs)]
  refine ⟨fun h => ?_, fun h => ⟨hd, fun i hi => ?_⟩⟩
  · apply ext_getD
    · rw [len_rep, lt, e]
    · intro i hi
      rw [h.2 i hi, g i hi]
  · rw [← g i hi, ← h]
theorem item_rep {A T : List Bool} {k : Nat} (hk : 0 < k) (h : 0 < T.length) (w : Nat) : itemW A (List.replicate k T).flatten w = itemW A T w := by
  by_cases hw : w < A.length
  · rw [item_lt hw, item_lt hw]
  · have hw : A.length ≤ w := by omega
    have p : 0 < k * T.length := Nat.mul_pos hk h
    rw [item_ge' hw, item_ge' hw, len_rep, getD_rep _ _ (Nat.mod_lt _ p), Nat.mod_mod_of_dvd _ (Nat.dvd_mul_left ..)]
/-- what the law puts longer -/
def longW (p : List Bool × List Bool) : List Bool × List Bool := (p.1 ++ p.2.take 1, p.2.drop 1 ++ p.2.take 1)
theorem longW_item (p : List Bool × List Bool) (h : 0 < p.2.length) (w : Nat) : itemW (longW p).1 (longW p).2 w = itemW p.1 p.2 w := by
  obtain ⟨A, T⟩ := p
  cases T with
  | nil => cases h
  | cons b T => exact item_step A T b w
theorem longW_len (p : List Bool × List Bool) (h : 0 < p.2.length) : (longW p).1.length = p.1.length + 1 ∧ (longW p).2.length = p.2.length := by
  obtain ⟨A, T⟩ := p
  cases T with
  | nil => cases h
  | cons b T => simp [longW]
end Hw
namespace Hw
theorem least_first {T : List Bool} (h : 0 < T.length) : ((List.range' 1 T.length).filter fun s => decide (Per T s))[0]? = some (leastS T) := by
  have e : ((List.range' 1 T.length).filter fun s => decide (Per T s))[0]? = (List.range' 1 T.length).find? fun s => decide (Per T s) := by
    rw [← List.head?_filter]
    cases (List.range' 1 T.length).filter fun s => decide (Per T s) <;> rfl
  rw [e]
  unfold leastS
  cases z : (List.range' 1 T.length).find? fun s => decide (Per T s) with
  | none =>
    have := List.find?_eq_none.mp z T.length (List.mem_range'_1.mpr (by omega))
    exact absurd (Per.all T) (by simpa using this)
  | some s => rfl
theorem stepsW_last : ∀ (n : Nat) (p : List Bool × List Bool), stepsW (n + 1) p = stepW (stepsW n p)
  | 0, _ => rfl
  | n + 1, p => stepsW_last n (stepW p)
theorem stepsW_nil : ∀ (n : Nat) (p : List Bool × List Bool), p.1 = [] → stepsW n p = p
  | 0, _, _ => rfl
  | n + 1, p, h => by
    have e : stepW p = p := by unfold stepW; rw [if_pos (by rw [h]; rfl)]
    show stepsW n (stepW p) = p
    rw [e]
    exact stepsW_nil n p h
theorem stepsW_add : ∀ (m n : Nat) (p : List Bool × List Bool), stepsW (m + n) p = stepsW n (stepsW m p)
  | 0, n, p => by rw [Nat.zero_add]; rfl
  | m + 1, n, p => by
    rw [show m + 1 + n = (m + n) + 1 by omega]
    exact stepsW_add m n (stepW p)
theorem range'_snoc (n : Nat) : List.range' 1 (n + 1) = List.range' 1 n ++ [n + 1] := by
  rw [List.range'_1_concat, Nat.add_comm]
end Hw

set_option Elab.async false
set_option linter.all false
set_option maxRecDepth 100000
set_option maxHeartbeats 4000000
/-! lists of Booleans, sets of widths as data; repr of data with dicts in it -/
namespace Hw
open PySem PySem.Spec PyProof.Rows L2
abbrev blV (l : List Bool) : List V := l.map V.bl
abbrev blD (l : List Bool) : List PyData := l.map PyData.bool
abbrev wdD (A T : List Bool) : PyData := .tuple [.list (blD A), .list (blD T)]
theorem Dt.bls_at {H : Hp} {x : V} {l : List Bool} (h : Dt H x (.list (blD l))) : ∃ a, x = .ref a ∧ H a = some (.lst (blV l)) := by
  cases h with
  | @lst a xs _ ha hs =>
    have e := DtAll.bls_inv _ _ hs
    subst e
    exact ⟨a, rfl, ha⟩
theorem Dt.wd {H : Hp} {x : V} {A T : List Bool} (h : Dt H x (wdD A T)) : ∃ a p q, x = .ref a ∧ H a = some (.tup [.ref p, .ref q]) ∧ H p = some (.lst (blV A)) ∧ H q = some (.lst (blV T)) := by
  cases h with
  | @tup a xs ds ha hs =>
  cases hs with
  | cons h1 hs =>
  cases hs with
  | cons h2 hs =>
  cases hs with
  | nil =>
  obtain ⟨p, rfl, hp⟩ := h1.bls_at
  obtain ⟨q, rfl, hq⟩ := h2.bls_at
  exact ⟨a, p, q, rfl, ha, hp, hq⟩
theorem Dt.bls {H : Hp} {a : Addr} {l : List Bool} (h : H a = some (.lst (blV l))) : Dt H (.ref a) (.list (blD l)) := .lst h (DtAll.bls l)
theorem Dt.wd_of {H : Hp} {a p q : Addr} {A T : List Bool} (ha : H a = some (.tup [.ref p, .ref q])) (hp : H p = some (.lst (blV A))) (hq : H q = some (.lst (blV T))) : Dt H (.ref a) (wdD A T) :=
  .tup ha (.cons (.bls hp) (.cons (.bls hq) .nil))
theorem bl_at {l : List Bool} {i : Nat} (h : i < l.length) : (blV l)[i]? = some (.bl (l.getD i false)) := by
  rw [List.getElem?_map, List.getElem?_eq_getElem h, getD_lt h]
  rfl
theorem bl_get {l : List Bool} {i : Nat} {x : V} (h : (blV l)[i]? = some x) : i < l.length ∧ x = .bl (l.getD i false) := by
  have hi : i < l.length := by
    have := (List.getElem?_eq_some_iff.mp h).1
    rwa [List.length_map] at this
  rw [bl_at hi] at h
  exact ⟨hi, (Option.some.inj h).symm⟩
/-- from the end -/
theorem bl_back {l : List Bool} {j : Nat} (h : j < l.length) : atI (blV l) (-1 - (j : Int)) = some (.bl (l.getD (l.length - 1 - j) false)) := by
  have hl : (blV l).length = l.length := List.length_map ..
  unfold atI
  rw [show ixN (blV l).length (-1 - (j : Int)) = some (l.length - 1 - j) by
    unfold ixN
    rw [hl, if_neg (by omega), if_pos (by omega)]
    congr 1
    omega]
  exact bl_at (by omega)
theorem blV_drop (l : List Bool) (n : Nat) : blV (l.drop n) = (blV l).drop n := List.map_drop ..
theorem blV_take (l : List Bool) (n : Nat) : blV (l.take n) = (blV l).take n := List.map_take ..
theorem blV_rep (n : Nat) (l : List Bool) : (List.replicate n (blV l)).flatten = blV (List.replicate n l).flatten := by
  show _ = List.map V.bl _
  rw [List.map_flatten, List.map_replicate]
theorem cut_from (l : List Bool) {n : Nat} (h : n ≤ l.length) : cutV (blV l) (some (n : Int)) none = blV (l.drop n) := by
  unfold cutV
  rw [HT.sIx_none, HT.sIx_nat, List.length_map, Nat.min_eq_left h, blV_drop, List.take_of_length_le (by rw [List.length_drop, List.length_map]; omega)]
theorem cut_to (l : List Bool) (n : Nat) : cutV (blV l) none (some (n : Int)) = blV (l.take n) := by
  unfold cutV
  rw [HT.sIx_none, HT.sIx_nat, List.length_map, List.drop_zero, Nat.sub_zero, blV_take]
  by_cases h : n ≤ l.length
  · rw [Nat.min_eq_left h]
  · rw [Nat.min_eq_right (by omega), List.take_of_length_le (by rw [List.length_map]; omega), List.take_of_length_le (by rw [List.length_map]; omega)]
theorem cut_back (l : List Bool) {n : Nat} (h : 0 < n) (hl : n ≤ l.length) : cutV (blV l) none (some (-(n : Int))) = blV (l.take (l.length - n)) := by
  have e : HT.sIx l.length l.length (some (-(n : Int))) = l.length - n := by
    show (if -(n : Int) < 0 then (-(n : Int) + (l.length : Int)).toNat else min (-(n : Int)).toNat l.length) = _
    rw [if_pos (by omega)]
    omega
  unfold cutV
  rw [HT.sIx_none, List.length_map, e, List.drop_zero, Nat.sub_zero, blV_take]
/-! == -/
theorem eqv_bls : ∀ a b : List Bool, PyData.eqvAll (blD a) (blD b) = decide (a = b)
  | [], [] => by simp [PyData.eqvAll]
  | [], _ :: _ => by simp [PyData.eqvAll]
  | _ :: _, [] => by simp [PyData.eqvAll]
  | x :: a, y :: b => by
    have ih := eqv_bls a b
    simp only [List.map_cons, PyData.eqvAll, PyData.eqv] at ih ⊢
    rw [ih]
    by_cases h : x = y
    · by_cases h2 : a = b
      · rw [h, h2]; simp
      · simp [h, h2]
    · simp [h]
theorem eqv_bl (a b : List Bool) : PyData.eqv (.list (blD a)) (.list (blD b)) = decide (a = b) := by
  rw [← eqv_bls a b]
  simp only [PyData.eqv]
theorem canLay_bls : ∀ l : List Bool, PyData.canLayAll0 (blD l) = true
  | [] => rfl
  | _ :: r => by show (true && PyData.canLayAll0 (blD r)) = true; rw [canLay_bls r]; rfl
theorem depth_bls : ∀ l : List Bool, PyData.depthAll (blD l) = 0
  | [] => by simp only [List.map_nil, PyData.depthAll]
  | x :: r => by
    show PyData.depthAll (PyData.bool x :: blD r) = 0
    simp only [PyData.depthAll, PyData.depth, depth_bls r]
    decide
theorem shaped_bls (l : List Bool) : SeqAt.shaped (.list (blD l)) = true := by
  have h3 : PyData.canLay0 (.list (blD l)) = true := by simp only [PyData.canLay0]; exact canLay_bls l
  have h4 : PyData.depth (.list (blD l)) ≤ 64 := by simp only [PyData.depth, depth_bls]; omega
  show (PyData.canLay0 _ && decide (PyData.depth _ ≤ 64)) = true
  rw [h3, decide_eq_true h4]
  rfl
/-- == of lists of Booleans -/
theorem eq_bls {H : Hp} {Q : VK} {a b : Addr} {l m : List Bool} (ha : H a = some (.lst (blV l))) (hb : H b = some (.lst (blV m))) (q : Q (.bl (decide (l = m))) H) : rEqT (.ref a) (.ref b) H Q :=
  ⟨_, _, .bls ha, .bls hb, shaped_bls l, shaped_bls m, by rw [eqv_bl]; exact q⟩
theorem ne_bls {H : Hp} {Q : VK} {a b : Addr} {l m : List Bool} (ha : H a = some (.lst (blV l))) (hb : H b = some (.lst (blV m))) (q : Q (.bl (!decide (l = m))) H) : rNeT (.ref a) (.ref b) H Q :=
  ⟨_, _, .bls ha, .bls hb, shaped_bls l, shaped_bls m, by rw [eqv_bl]; exact q⟩
/-! sizes -/
theorem Bnd.bls {l : List Bool} {n : Nat} (h : l.length ≤ n) : Bnd 1 n (.list (blD l)) := by
  refine Bnd.list (k := 0) (b := 0) (n := n) (fun d hd => ?_) (by rw [List.length_map]; exact h) (by omega)
  obtain ⟨x, _, rfl⟩ := List.mem_map.mp hd
  exact .bl x
theorem Bnd.wd {A T : List Bool} {n : Nat} (h : A.length ≤ n) (h' : T.length ≤ n) : Bnd 2 (2 * (n + 1)) (wdD A T) := by
  refine Bnd.tuple (k := 1) (b := n) (n := 2) (fun d hd => ?_) (Nat.le_refl _) (Nat.le_refl _)
  simp only [List.mem_cons, List.not_mem_nil, or_false] at hd
  rcases hd with rfl | rfl
  · exact .bls h
  · exact .bls h'
theorem wd_nice {A T : List Bool} (h : A.length ≤ 1000) (h' : T.length ≤ 1000) : Nice (wdD A T) := (Bnd.wd h h').nice (by decide) (by decide)
/-! ### repr of data that has dicts anywhere in it -/
section
variable {X : Cx} {pins : List (Addr × Obj)} {σ : L2.St} {H : Hp} {s : Shared}
mutual
theorem Dt.reads2 (I : Inv X pins σ H s) : ∀ (d : PyData) (v : V) (u : Value), Dt H v d → RelV v u → ∃ as, Reads s.heap u d as ∧ ∀ a ∈ as, H a ≠ none
  | .none, _, _, h, r => by
    cases h
    cases r
    exact ⟨_, Reads.none, fun _ z => nomatch z⟩
  | .bool b, _, _, h, r => by
    cases h
    cases r
    exact ⟨_, Reads.bool b, fun _ z => nomatch z⟩
  | .int i, _, _, h, r => by
    cases h
    obtain ⟨t, rfl⟩ := r
    exact ⟨_, Reads.int i t, fun _ z => nomatch z⟩
  | .str x, _, _, h, r => by
    cases h
    obtain ⟨t, rfl⟩ := r
    exact ⟨_, Reads.str x t, fun _ z => nomatch z⟩
  | .list ds, _, _, h, r => by
    cases h with
    | lst hs ha =>
      cases r
      obtain ⟨its, rv, ⟨o, n, ho, hc, _, hd⟩, _⟩ := I.list (X := X) (show SqL X.K H _ _ from .inl (.inl hs))
      obtain ⟨as, hr, hn⟩ := Dt.reads2All I ds _ its ha rv
      refine ⟨_, Reads.list ho hc hd hr, fun a z => ?_⟩
      rcases List.mem_cons.mp z with z | z
      · rw [z, hs]
        exact fun y => nomatch y
      · exact hn a z
  | .tuple ds, _, _, h, r => by
    cases h with
    | tup hs ha =>
      cases r
      obtain ⟨its, rv, ⟨o, ho, hc, n, hd⟩, _⟩ := I.tuple (X := X) (show SqT X.K H _ _ from .inl (.inl hs))
      obtain ⟨as, hr, hn⟩ := Dt.reads2All I ds _ its ha rv
      exact ⟨_, Reads.tuple ho hc hd hr, hn⟩
  | .dict ds, _, _, h, r => by
    cases h with
    | dic kvs hs =>
      cases r
      obtain ⟨_, ns, vs, kv, o, es, ep, ho, hx, hd, _, pr, _⟩ := dk_of I.hok hs
      obtain ⟨a, b⟩ := readsKV (h := s.heap) kvs vs es.toList kv pr
      refine ⟨_, Reads.dict ho hx.1 hd a b, fun c z => ?_⟩
      simp only [List.append_nil, List.mem_singleton] at z
      rw [z, hs]
      exact fun y => nomatch y
theorem Dt.reads2All (I : Inv X pins σ H s) : ∀ (ds : List PyData) (vs : List V) (us : List Value), DtAll H vs ds → Vals vs us → ∃ as, ReadsAll s.heap us ds as ∧ ∀ a ∈ as, H a ≠ none
  | [], _, _, h, r => by
    cases h
    cases r
    exact ⟨_, ReadsAll.nil, fun _ z => nomatch z⟩
  | d :: ds, _, _, h, r => by
    cases h with
    | cons h1 h2 =>
      cases r with
      | cons r1 r2 =>
        obtain ⟨as, q1, n1⟩ := Dt.reads2 I d _ _ h1 r1
        obtain ⟨bs, q2, n2⟩ := Dt.reads2All I ds _ _ h2 r2
        exact ⟨_, ReadsAll.cons q1 q2, fun a z => (List.mem_append.mp z).elim (n1 a) (n2 a)⟩
end
theorem Inv.noSys (I : Inv X pins σ H s) (h : (X.K.lookup sysModules).isSome = true) : H sysModules = none := by
  obtain ⟨o, e⟩ := Option.isSome_iff_exists.mp h
  exact (I.bs _ _ (I.mod.kin _ _ e)).2
/-- data whose repr can be told, dicts anywhere -/
structure ShowsN (d : PyData) : Prop where
  show_ : d.showable = true
  fits : d.shown.length ≤ sizeLine
  deep : d.depth ≤ 60
theorem Nice.showsN {d : PyData} (n : Nice d) : ShowsN d := ⟨n.shows.show_, n.fits, n.deep⟩
def rReprN : List V → Hp → VK → Prop := fun xs H Q => ∃ (x : V) (d : PyData), xs = [x] ∧ Dt H x d ∧ ShowsN d ∧ Q (.str d.shown) H
theorem call_reprN {K : PySem.W.Frag} (hK : X.K = K) (hsys : (K.lookup sysModules).isSome = true) (gd : Gd X.A) (hu : X.A.units + 64 < cLine) : CallR X (.builtin "repr") rReprN := by
  subst hK
  intro pins s σ H xs us Q I r h
  obtain ⟨x, d, rfl, dp, nice, q⟩ := h
  have sh := nice.show_
  have sz := nice.fits
  have dep := nice.deep
  obtain ⟨u, rfl, ru⟩ := vals1 r
  obtain ⟨as, rd, nm⟩ := Dt.reads2 I d x u dp ru
  have hsm : d.hasDict = true → sysModules ∉ as := fun _ z => nm _ z (Inv.noSys I hsys)
  cases dp with
  | non => cases (show u = Value.none from ru); exact PySem.P.repr_of_none ⟨.str _, H, I.tok _, ⟨_, rfl⟩, q⟩
  | bl b => cases (show u = Value.bool b from ru); exact PySem.P.repr_of_bool ⟨.str _, H, I.tok _, ⟨_, rfl⟩, by simpa only [PyData.shown] using q⟩
  | int i => obtain ⟨t, rfl⟩ := ru; exact PySem.P.repr_of_int (by simpa only [PyData.showable, decide_eq_true_eq] using sh) ⟨.str _, H, I.tok _, ⟨_, rfl⟩, by simpa only [PyData.shown] using q⟩
  | str z => obtain ⟨t, rfl⟩ := ru; exact PySem.P.repr_of_str ⟨.str _, H, I.tok _, ⟨_, rfl⟩, by simpa only [PyData.shown] using q⟩ (by simpa only [PyData.shown] using sz)
  | @lst a xs ds e1 e2 =>
    cases (show u = Value.ref a from ru)
    exact repr_of_reads' rd sh hsm gd (by omega) (fun _ _ e => e) (fun h' u tk hk => ⟨.str _, H, I.kept hk, ⟨_, rfl⟩, q⟩) sz
  | @tup a xs ds e1 e2 =>
    cases (show u = Value.ref a from ru)
    exact repr_of_reads' rd sh hsm gd (by omega) (fun _ _ e => e) (fun h' u tk hk => ⟨.str _, H, I.kept hk, ⟨_, rfl⟩, q⟩) sz
  | @dic a kvs e1 =>
    cases (show u = Value.ref a from ru)
    exact repr_of_reads' rd sh hsm gd (by omega) (fun _ _ e => e) (fun h' u tk hk => ⟨.str _, H, I.kept hk, ⟨_, rfl⟩, q⟩) sz
end
theorem bl_showsN (b : Bool) : ShowsN (.bool b) := ((Bnd.bl (k := 0) (b := 0) b).nice (by decide) (by decide)).showsN
theorem int_showsN {i : Int} (h : i.natAbs < 10 ^ 38) : ShowsN (.int i) := (Nice.int h).showsN
end Hw
namespace Hw
open PySem PySem.Spec PyProof.Rows L2
/-! ### data laid anew, told exactly, over what stands already -/
/-- what is rested on stays while new things are laid -/
def StS (S : Hp → Prop) : Prop := ∀ H H', S H → Same H H' → S H'
section
variable {S : Hp → Prop} {σ : L2.St} {ds es : List PyData} {d : PyData} {te tf : TE} {ta : TA} {i : Nat} {K : PySem.W.Frag}
theorem Ex.int (i : Int) : Ev S (Ed (.int i)) (tC (.int i)) σ := fun H Q _ q => q _ H (Same.refl H) (.int i)
theorem Ex.bl (b : Bool) : Ev S (Ed (.bool b)) (tC (.bl b)) σ := fun H Q _ q => q _ H (Same.refl H) (.bl b)
theorem Ex.str (x : Str) : Ev S (Ed (.str x)) (tC (.str x)) σ := fun H Q _ q => q _ H (Same.refl H) (.str x)
theorem Ex.non : Ev S (Ed .none) (tC .non) σ := fun H Q _ q => q _ H (Same.refl H) .non
theorem Ex.var {x : V} (h : σ[i]? = some (some x)) (hx : ∀ H, S H → Dt H x d) : Ev S (Ed d) (tVar i) σ := fun H Q s q => ⟨x, h, q x H (Same.refl H) (hx H s)⟩
theorem Ex.nil : Eva S (Eda []) tNil σ := fun H Q _ q => q _ H (Same.refl H) .nil
theorem Ex.cons (st : StS S) (h : Ev S (Ed d) te σ) (r : Eva S (Eda ds) ta σ) : Eva S (Eda (d :: ds)) (tCons te ta) σ := fun H Q s q => h H _ s fun x H1 e1 p1 => r H1 _ (st _ _ s e1) fun xs H2 e2 p2 => q _ H2 (e1.trans e2) (.cons (Dt.to p1 e2) p2)
theorem Ex.lst (h : Eva S (Eda ds) ta σ) (hn : ds.length ≤ 100000 := by decide) : Ev S (Ed (.list ds)) (tLst ta) σ := fun H Q s q => h H _ s fun xs H1 e1 p1 => by
  have p1 : DtAll H1 xs ds := p1
  refine ⟨by rw [p1.len, sizeLine_eq]; omega, fun p hp => ?_⟩
  have e2 := same_new' (o := .lst xs) hp
  exact q _ _ (e1.trans e2) (Dt.lst upd_same (p1.to e2))
theorem Ex.tup (h : Eva S (Eda ds) ta σ) (hn : ds.length ≤ 100000 := by decide) : Ev S (Ed (.tuple ds)) (tTup ta) σ := fun H Q s q => h H _ s fun xs H1 e1 p1 => by
  have p1 : DtAll H1 xs ds := p1
  refine ⟨by rw [p1.len, sizeLine_eq]; omega, fun p hp => ?_⟩
  have e2 := same_new' (o := .tup xs) hp
  exact q _ _ (e1.trans e2) (Dt.tup upd_same (p1.to e2))
theorem Ex.dnew : Ev S (Ed (.dict [])) tDNewK σ := fun H Q s q p hp => q _ _ (same_new' hp) (.dic [] upd_same)
theorem Dt.tup_at {H : Hp} {x : V} {ds : List PyData} (h : Dt H x (.tuple ds)) : ∃ a xs, x = .ref a ∧ H a = some (.tup xs) ∧ DtAll H xs ds := by
  cases h with
  | @tup a xs _ ha hs => exact ⟨a, xs, rfl, ha, hs⟩
theorem Dt.lst_at {H : Hp} {x : V} {ds : List PyData} (h : Dt H x (.list ds)) : ∃ a xs, x = .ref a ∧ H a = some (.lst xs) ∧ DtAll H xs ds := by
  cases h with
  | @lst a xs _ ha hs => exact ⟨a, xs, rfl, ha, hs⟩
theorem DtAll.at {H : Hp} : ∀ {vs : List V} {ds : List PyData}, DtAll H vs ds → ∀ (i : Nat) (d : PyData), ds[i]? = some d → ∃ v, vs[i]? = some v ∧ Dt H v d
  | _, _, .nil, i, d, h => by simp at h
  | _, _, .cons h1 r, 0, d, h => by
    have e := Option.some.inj (show some _ = some d from h)
    subst e
    exact ⟨_, rfl, h1⟩
  | _, _, .cons _ r, i + 1, d, h => r.at i d h
theorem Ex.ixT {n : Nat} (h : Ev S (Ed (.tuple ds)) te σ) (hi : ds[n]? = some d) : Ev S (Ed d) (tOp (rIxT K) te (tC (.int (n : Int)))) σ := fun H Q s q => h H _ s fun x H1 e1 p1 => by
  obtain ⟨a, xs, rfl, ha, hs⟩ := Dt.tup_at p1
  obtain ⟨v, hv, hd⟩ := hs.at n d hi
  exact ⟨a, xs, n, v, rfl, rfl, .inl (.inl ha), atI_nat hv, q _ H1 e1 hd⟩
theorem Ex.listT (h : Ev S (Ed (.tuple ds)) te σ) : Ev S (Ed (.list ds)) (tCB (rListK K) (tCons te tNil)) σ := fun H Q s q => h H _ s fun x H1 e1 p1 => by
  obtain ⟨a, xs, rfl, ha, hs⟩ := Dt.tup_at p1
  refine ⟨a, xs, rfl, .inr (.inl (.inl ha)), fun p hp => ?_⟩
  have e2 := same_new' (o := .lst xs) hp
  exact q _ _ (e1.trans e2) (Dt.lst upd_same (hs.to e2))
theorem Ex.tupL (h : Ev S (Ed (.list ds)) te σ) : Ev S (Ed (.tuple ds)) (tCB (rTupK K) (tCons te tNil)) σ := fun H Q s q => h H _ s fun x H1 e1 p1 => by
  obtain ⟨a, xs, rfl, ha, hs⟩ := Dt.lst_at p1
  refine ⟨a, xs, rfl, .inl ⟨.inl (.inl ha), fun p hp => ?_⟩⟩
  have e2 := same_new' (o := .tup xs) hp
  exact q _ _ (e1.trans e2) (Dt.tup upd_same (hs.to e2))
theorem Ex.cutT {n : Nat} (h : Ev S (Ed (.tuple ds)) te σ) : Ev S (Ed (.tuple (ds.take n))) (L2.tSl (rSlA K) te tNoPart (tPart (tC (.int (n : Int))))) σ := fun H Q s q => h H _ s fun x H1 e1 p1 => by
  obtain ⟨a, xs, rfl, ha, hs⟩ := Dt.tup_at p1
  have hl := hs.len
  refine ⟨n, rfl, a, xs, rfl, .inl (.inl ha), fun z => ?_, fun _ p hp => ?_⟩
  · have : n ≥ xs.length := by
      have z2 := z.2
      rw [HT.sIx_nat] at z2
      omega
    rw [List.take_of_length_le (by omega)] at q
    exact q _ H1 e1 (Dt.tup ha hs)
  · have ec : cutV xs none (some (n : Int)) = xs.take n := by
      unfold cutV
      rw [HT.sIx_none, HT.sIx_nat, List.drop_zero, Nat.sub_zero]
      by_cases h : n ≤ xs.length
      · rw [Nat.min_eq_left h]
      · rw [Nat.min_eq_right (by omega), List.take_of_length_le (Nat.le_refl _), List.take_of_length_le (by omega)]
    rw [ec]
    have e2 := same_new' (o := .tup (xs.take n)) hp
    exact q _ _ (e1.trans e2) (Dt.tup upd_same ((hs.take n).to e2))
theorem Ex.cat (st : StS S) (h : Ev S (Ed (.list ds)) te σ) (k : Ev S (Ed (.list es)) tf σ) (hn : ds.length + es.length ≤ 100000) : Ev S (Ed (.list (ds ++ es))) (tOp rCat te tf) σ := fun H Q s q => h H _ s fun x H1 e1 p1 => k H1 _ (st _ _ s e1) fun y H2 e2 p2 => by
  obtain ⟨a, xs, rfl, ha, hs⟩ := Dt.lst_at (Dt.to p1 e2)
  obtain ⟨b, ys, rfl, hb, ht⟩ := Dt.lst_at p2
  refine ⟨a, b, xs, ys, rfl, rfl, ha, hb, by rw [hs.len, ht.len, sizeLine_eq]; omega, fun p hp => ?_⟩
  have e3 := same_new' (o := .lst (xs ++ ys)) hp
  exact q _ _ ((e1.trans e2).trans e3) (Dt.lst upd_same ((hs.app ht).to e3))
theorem Ex.catT (st : StS S) (h : Ev S (Ed (.tuple ds)) te σ) (k : Ev S (Ed (.tuple es)) tf σ) (hn : ds.length + es.length ≤ 100000) : Ev S (Ed (.tuple (ds ++ es))) (tOp (rCatA K) te tf) σ := fun H Q s q => h H _ s fun x H1 e1 p1 => k H1 _ (st _ _ s e1) fun y H2 e2 p2 => by
  obtain ⟨a, xs, rfl, ha, hs⟩ := Dt.tup_at (Dt.to p1 e2)
  obtain ⟨b, ys, rfl, hb, ht⟩ := Dt.tup_at p2
  refine ⟨a, b, xs, ys, rfl, rfl, .inl (.inl ha), .inl (.inl hb), by rw [hs.len, ht.len, sizeLine_eq]; omega, fun z => ?_, fun z1 z2 => ?_, fun _ _ p hp => ?_⟩
  · subst z
    cases hs
    exact q _ H2 (e1.trans e2) (Dt.tup hb ht)
  · subst z2
    cases ht
    rw [List.append_nil] at q
    exact q _ H2 (e1.trans e2) (Dt.tup ha hs)
  · have e3 := same_new' (o := .tup (xs ++ ys)) hp
    exact q _ _ ((e1.trans e2).trans e3) (Dt.tup upd_same ((hs.app ht).to e3))
end
end Hw
namespace Hw
open PySem PySem.Spec PyProof.Rows L2
/-! ### bounds, item by item -/
def AllB (k b : Nat) (ds : List PyData) : Prop := ∀ d ∈ ds, Bnd k b d
theorem AllB.nil {k b : Nat} : AllB k b [] := fun d h => nomatch h
theorem AllB.cons {k b k' b' : Nat} {d : PyData} {ds : List PyData} (h : Bnd k' b' d) (r : AllB k b ds) (hk : k' ≤ k := by decide) (hb : b' ≤ b := by decide) : AllB k b (d :: ds) := fun x hx => by
  rcases List.mem_cons.mp hx with e | e
  · rw [e]; exact h.up hk hb
  · exact r x e
theorem AllB.app {k b : Nat} {ds es : List PyData} (h : AllB k b ds) (r : AllB k b es) : AllB k b (ds ++ es) := fun x hx => (List.mem_append.mp hx).elim (h x) (r x)
theorem AllB.bls {k b : Nat} (l : List Bool) : AllB k b (blD l) := fun x hx => by
  obtain ⟨y, _, rfl⟩ := List.mem_map.mp hx
  exact .bl y
theorem Bnd.lst {k b n c : Nat} {ds : List PyData} (h : AllB k b ds) (hl : ds.length ≤ n) (hc : n * (b + 1) ≤ c := by decide) : Bnd (k + 1) c (.list ds) := Bnd.list h hl hc
theorem Bnd.tup {k b n c : Nat} {ds : List PyData} (h : AllB k b ds) (hl : ds.length ≤ n) (hc : n * (b + 1) ≤ c := by decide) : Bnd (k + 1) c (.tuple ds) := Bnd.tuple h hl hc
/-- a list of Booleans and one thing more -/
theorem Bnd.blsP {l : List Bool} {d : PyData} {n : Nat} (h : l.length ≤ n) (hd : Bnd 0 0 d) : Bnd 1 (n + 1) (.list (blD l ++ [d])) :=
  Bnd.list (k := 0) (b := 0) (n := n + 1) (AllB.app (AllB.bls l) (AllB.cons hd AllB.nil)) (by rw [List.length_append, List.length_map]; show l.length + 1 ≤ _; omega) (by omega)
theorem Bnd.blsT {l : List Bool} {n : Nat} (h : l.length ≤ n) : Bnd 1 n (.tuple (blD l)) := Bnd.tuple (k := 0) (b := 0) (n := n) (AllB.bls l) (by rw [List.length_map]; exact h) (by omega)
end Hw

set_option Elab.async false
set_option linter.all false
set_option maxRecDepth 100000
set_option maxHeartbeats 4000000
/-! the head's facts; the part of the heap that is read has the table of loaded modules -/
namespace Hw
open PySem PySem.Spec PyProof.Rows L2
def partY (n : Nat) (g : Addr → Option Obj) : PySem.W.Frag := He.frG g (sysModules :: He.asD g n)
def obsY (fa : List He.Fa) (fn : List He.DefD) (K : PySem.W.Frag) : He.AlD := ((He.obsD fa fn K).1 && (K.lookup sysModules).isSome, (He.obsD fa fn K).2)
def SaysY (fa : List He.Fa) (fn : List He.DefD) (K : PySem.W.Frag) : Prop := obsY fa fn K = He.valD fn
def obsYG (n : Nat) (fa : List He.Fa) (fn : List He.DefD) (g : Addr → Option Obj) : He.AlD := obsY fa fn (partY n g)
def hookY (n : Nat) (fa : List He.Fa) (fn : List He.DefD) : PySem.W.Hook where
  α := He.AlD
  obs := fun s => obsYG n fa fn s.heap.get?
  val := fun _ => He.valD fn
  says := fun _ h => ∃ K : PySem.W.Frag, K.In h ∧ SaysY fa fn K
  of := fun _ _ e => ⟨_, He.frG_in, e⟩
  keeps := fun _ _ _ ⟨K, hK, c⟩ k => ⟨K, PySem.W.Frag.In.keeps hK k, c⟩
theorem obsYG_eq {n : Nat} {fa : List He.Fa} {fn : List He.DefD} {g : Addr → Option Obj} {s : Shared} (h : ∀ a, g a = s.heap.get? a) : obsYG n fa fn g = (hookY n fa fn).obs s := by
  rw [show g = s.heap.get? from funext h]
  rfl
theorem SaysY.says {fa : List He.Fa} {fn : List He.DefD} {K : PySem.W.Frag} (h : SaysY fa fn K) : He.SaysD fa fn K ∧ (K.lookup sysModules).isSome = true := by
  have e1 : ((He.obsD fa fn K).1 && (K.lookup sysModules).isSome) = true := congrArg Prod.fst (show obsY fa fn K = He.valD fn from h)
  have e2 : (obsY fa fn K).2 = (He.valD fn).2 := congrArg Prod.snd (show obsY fa fn K = He.valD fn from h)
  obtain ⟨a, b⟩ := Bool.and_eq_true_iff.mp e1
  exact ⟨Prod.ext a e2, b⟩
/-! literals, one by one -/
theorem lit_wd {H : Hp} {p q a : Addr} {A T : List Bool} (hp : H p = none) (hq : upd H p (.lst (blV A)) q = none) (ha : upd (upd H p (.lst (blV A))) q (.lst (blV T)) a = none) :
    Same H (upd (upd (upd H p (.lst (blV A))) q (.lst (blV T))) a (.tup [.ref p, .ref q])) ∧ Dt (upd (upd (upd H p (.lst (blV A))) q (.lst (blV T))) a (.tup [.ref p, .ref q])) (.ref a) (wdD A T) := by
  have e1 := same_new' (o := .lst (blV A)) hp
  have e2 := same_new' (o := .lst (blV T)) hq
  have e3 := same_new' (o := .tup [.ref p, .ref q]) ha
  exact ⟨(e1.trans e2).trans e3, .wd_of upd_same (e3 _ _ (e2 _ _ upd_same)) (e3 _ _ upd_same)⟩
section
variable {te tf : TE} {ta : TA} {σ : L2.St} {H : Hp} {Q : VK} {QA : List V → Hp → Prop} {sp : Sp} {dvs : List V} {E : XK} {r : R2} {rb : List V → Hp → VK → Prop}
theorem consL (h : te σ H fun x H1 => ta σ H1 fun xs H2 => QA (x :: xs) H2) : tCons te ta σ H QA := h
theorem oneL (h : te σ H fun x H1 => QA [x] H1) : tCons te tNil σ H QA := h
theorem cbL (h : ta σ H fun vs H1 => rb vs H1 Q) : tCB rb ta σ H Q := h
theorem opL (h : te σ H fun x H1 => tf σ H1 fun y H2 => r x y H2 Q) : tOp r te tf σ H Q := h
theorem andL {t u : TT} {QB : Bool → Hp → Prop} (h : t σ H fun c H1 => if c = true then u σ H1 QB else QB false H1) : tAnd t u σ H QB := h
end
end Hw

set_option Elab.async false
set_option linter.all false
set_option maxRecDepth 100000
set_option maxHeartbeats 4000000
/-! for i in range(a, b) with ends of any size -/
namespace Hw
open PySem PySem.Spec PyProof.Rows L2
theorem turnBig {P : Program} {w : World} {K : PySem.W.Frag} {tg : Expr} (z : Addr) (a : Int) (m : Nat) : Turn P w K tg (Itr a m) [z] z (fun k g => IsLongIter g z (a + (k : Nat) * 1) ((m : Int) - (k : Nat)) 1) where
  mem := List.mem_singleton.mpr rfl
  obj := fun k g q b hb => by
    cases List.mem_singleton.mp hb
    exact ⟨_, q, fun v y => Data.noConfusion (show Data.fields _ = Data.cell v from y)⟩
  keep := fun k g g' q keeps => keeps z (List.mem_singleton.mpr rfl) _ q
  item := by
    intro X e1 e2 e3 calm k pins st σ H E J free q more
    subst e1 e2 e3
    obtain ⟨p0, p1, p2, p3, p4, p5⟩ := free z (List.mem_singleton.mpr rfl)
    refine (Walks.longrange (prog := X.prog) (w := X.w) (J.ok.hd calm) z a 1 m).item k st _ _ more q fun v g' tk ⟨t, hv⟩ q' same => ?_
    subst hv
    have J1 : Inv X pins σ H { st with heap := g', toks := tk } := J.turned (fun b o nb e => same b o (fun y => nb (List.mem_singleton.mp y)) e) p0 p1 p3 p4 p5
    refine ⟨_, rfl, go_of (s := { st with heap := g', toks := tk }) (n := "longrange_iterator") q' rfl rfl (by decide) ⟨.int (a + k), H, J1, ⟨t, by rw [Int.mul_one]⟩, ⟨rfl, rfl⟩, q', fun b hb => (free b hb).1⟩⟩
  done := by
    intro X e1 e2 e3 calm k pins st σ H E J free q no
    subst e1 e2 e3
    obtain ⟨p0, p1, p2, p3, p4, p5⟩ := free z (List.mem_singleton.mpr rfl)
    have no : m ≤ k := no
    exact wpAny_pyNext_long_end (J.ok.hd calm) q (by omega) fun g' same => ⟨rfl, J.turned (t' := st.toks) (fun b o nb e => same b o nb e) p0 p1 p3 p4 p5⟩
  self := fun _ _ _ _ _ q done => wpAny_pyIter_longiter q done
theorem size_one (a b : Int) : (((b - a).toNat : Nat) : Int) = Builtin.Range.rangeSize a b 1 := by
  rw [rangeSize_one]
  split <;> omega
section
variable {X : Cx} {tg : Expr}
/-- a range just made, whatever its ends -/
theorem rangeAny {pins : List (Addr × Obj)} {σ : L2.St} {H : Hp} {st : Shared} {R : It → Hp → Prop} {E : Value → Shared → Prop} {a b : Int} {t u v : Tok} {tk : Nat} (J : Inv X pins σ H st) (q : R (Itr a (b - a).toNat) H) :
    wpAny (model X.prog X.w) X.A (pyIter (.ref st.heap.objs.size)) (PIE X pins σ tg R) E { st with heap := st.heap.push { cls := .type "range", data := .fields #[.int a t, .int b u, .int 1 v] }, toks := tk } := by
  have J1 : Inv X pins σ H { st with heap := st.heap.push { cls := .type "range", data := .fields #[.int a t, .int b u, .int 1 v] }, toks := tk } := J.kept fun c o e => Heap.get?_push_of_some _ e
  have w0 : a + ((0 : Nat) : Int) * 1 = a := by omega
  have w1 : (((b - a).toNat : Nat) : Int) - ((0 : Nat) : Int) = Builtin.Range.rangeSize a b 1 := by rw [← size_one]; omega
  have fresh := fun c (hc : c ∈ [(st.heap.push { cls := .type "range", data := .fields #[.int a t, .int b u, .int 1 v] }).objs.size]) => (List.mem_singleton.mp hc) ▸ J1.fpOk (Nat.le_refl _) (J1.hok.fresh (Nat.le_refl _))
  cases small : Builtin.Range.small a b 1 with
  | true =>
    refine wpAny_pyIter_range (IsRange.new ..) small ⟨_, [_], _, Itr a (b - a).toNat, H, rfl, J1.kept (t' := tk) fun c o e => Heap.get?_push_of_some _ e, turn_range _ a (b - a).toNat, ?_, fresh, q⟩
    show IsRangeIter _ _ (a + ((0 : Nat) : Int) * 1) ((((b - a).toNat : Nat) : Int) - ((0 : Nat) : Int)) 1
    rw [w0, w1]
    exact Heap.get?_push_size _ rfl
  | false =>
    refine wpAny_pyIter_longrange (IsRange.new ..) small ⟨_, [_], _, Itr a (b - a).toNat, H, rfl, J1.kept (t' := tk) fun c o e => Heap.get?_push_of_some _ e, turnBig _ a (b - a).toNat, ?_, fresh, q⟩
    show IsLongIter _ _ (a + ((0 : Nat) : Int) * 1) ((((b - a).toNat : Nat) : Int) - ((0 : Nat) : Int)) 1
    rw [w0, w1]
    exact Heap.get?_push_size _ rfl
def iRngA (ta : TA) : TI := fun σ H R => ta σ H fun vs H1 => ∃ i j : Int, vs = [.int i, .int j] ∧ R (Itr i (j - i).toNat) H1
theorem pi_rangeA {a b : Expr} {ta : TA} {p pos : Pos} (hg : Gl X "range") (hm : X.mg "range" = none) (ha : PA X [a, b] ta) (h2 : starEach [a, b] X.env = [(false, eval a X.env), (false, eval b X.env)] := by rfl) (h1 : starEach [b] X.env = [(false, eval b X.env)] := by rfl) :
    PI X tg (.Call (.Name "range" p) [a, b] [] pos) (iRngA ta) where
  run := fun pins st σ H R J want => Call_ (ld_blt J hg hm boot_range (PyProof.Rows.callWith_type1 (thn (ha.run pos pins st σ H _ J want) fun us s1 told => by
    obtain ⟨vs, H1, J1, rel, i, j, e, q⟩ := told
    subst e
    match us, rel with
    | [_, _], .cons ⟨t, e1⟩ (.cons ⟨t', e2⟩ .nil) =>
      subst e1 e2
      exact call_range_2 (rangeAny J1 q)) (by rw [h2, h1]) (by rw [h1]; rfl)))
end
end Hw

set_option Elab.async false
set_option linter.all false
set_option maxRecDepth 100000
set_option maxHeartbeats 4000000
/-! sums of lists of Booleans -/
namespace Hw
open PySem PySem.Spec PyProof.Rows L2
/-- how many are True -/
def cntB (l : List Bool) : Nat := l.count true
theorem vals_bls : ∀ (bs : List Bool) (us : List Value), Vals (blV bs) us → us = bs.map Value.bool
  | [], _, h => by cases h; rfl
  | b :: r, _, h => by
    cases h with
    | cons h1 h2 =>
      rw [show _ = Value.bool b from h1, vals_bls r _ h2]
      rfl
def bitB (bs : List Bool) (i : Nat) : Int := if bs.getD i false = true then 1 else 0
theorem preSum_bls (bs : List Bool) : ∀ n, n ≤ bs.length → preSum (bitB bs) n = ((bs.take n).count true : Nat)
  | 0, _ => rfl
  | n + 1, h => by
    have ih := preSum_bls bs n (by omega)
    have e : preSum (bitB bs) (n + 1) = preSum (bitB bs) n + bitB bs n := rfl
    rw [e, ih, List.take_add_one, List.getElem?_eq_getElem (show n < bs.length by omega), List.count_append]
    unfold bitB
    rw [getD_lt (show n < bs.length by omega)]
    cases bs[n]
    · rfl
    · rfl
section
variable {X : Cx} {K : PySem.W.Frag}
def rSumB (K : PySem.W.Frag) : List V → Hp → VK → Prop := fun vs H Q => ∃ (a : Addr) (bs : List Bool), vs = [V.ref a] ∧ SqL K H a (blV bs) ∧ Q (.int (cntB bs : Nat)) H
theorem cr_sumB (hK : X.K = K) (hc : X.calm = true) : CallR X (.builtin "sum") (rSumB K) := by
  subst hK
  intro pins s σ H vs us Q I r h
  obtain ⟨a, bs, rfl, hs, q⟩ := h
  obtain ⟨its, rv, hl, _⟩ := I.list hs
  rw [Vals.ref1 r]
  have e := vals_bls bs its rv
  subst e
  have lt : a < s.heap.objs.size := by obtain ⟨_, e, _⟩ := hl.isList; exact Heap.lt_size e
  have I2 : Inv X pins σ H { s with heap := s.heap.push { cls := .type "list_iterator", data := .fields #[.ref a, .int 0 0] } } := I.kept (t' := s.toks) fun b o e => Heap.get?_push_of_some _ e
  refine call_sum_walkAnyB (wpAny_pyIter_list hl.isList ⟨s.heap.objs.size, [s.heap.objs.size, a], [s.heap.objs.size], _, _, _, _, bitB bs, rfl, (Walks.list (A := X.A.in1) (I.ok.hd hc) s.heap.objs.size a (Nat.ne_of_lt lt) (bs.map Value.bool).toArray).toS, ⟨⟨_, Heap.get?_push_size _ rfl, rfl, rfl⟩, hl.isList.push _⟩, ?_, ?_, ?_⟩)
  · intro b hb
    show b < (s.heap.push _).objs.size
    rw [Heap.size_push]
    simp only [List.mem_cons, List.not_mem_nil, or_false] at hb
    rcases hb with rfl | rfl
    · exact Nat.lt_succ_self _
    · exact Nat.lt_succ_of_lt lt
  · intro i v hv
    have hv : (bs.map Value.bool).toArray[i]? = some v := hv
    rw [List.getElem?_toArray, List.getElem?_map] at hv
    obtain ⟨b, hb, rfl⟩ := Option.map_eq_some_iff.mp hv
    refine .inr ⟨b, rfl, ?_⟩
    unfold bitB
    rw [List.getD_eq_getElem?_getD, hb]
    rfl
  · intro s' t' m
    have same : s' = { s with heap := s'.heap, toks := s'.toks } := by
      have e1 : s'.gens = s.gens := m.gens
      have e2 : s'.drawn = s.drawn := m.drawn
      have e3 : s'.os = s.os := m.os
      cases s'
      cases s
      cases e1
      cases e2
      cases e3
      rfl
    rw [same]
    refine ⟨.int _, H, I.kept (t' := s'.toks) fun b o e => m.heap b o (fun z => ?_) (Heap.get?_push_of_some _ e), ⟨_, rfl⟩, ?_⟩
    · rw [List.mem_singleton.mp z] at e
      exact Nat.lt_irrefl _ (Heap.lt_size e)
    · rw [show ((bs.map Value.bool).toArray.size) = bs.length by rw [List.size_toArray, List.length_map], preSum_bls bs _ (Nat.le_refl _), List.take_length]
      exact q
end
end Hw

set_option Elab.async false
set_option linter.all false
/-! sets of widths: the first one, the greatest one, how many below, the one with a number -/
namespace Hw
def firstW (f : Nat → Bool) (lo n : Nat) : Option Nat := ((List.range n).find? fun i => f (lo + i)).map (lo + ·)
theorem firstW_none {f : Nat → Bool} {lo n : Nat} (h : ∀ j, j < n → f (lo + j) = false) : firstW f lo n = none := by
  unfold firstW
  rw [List.find?_eq_none.mpr fun i hi => by rw [h i (List.mem_range.mp hi)]; exact Bool.false_ne_true]
  rfl
theorem firstW_some {f : Nat → Bool} {lo n i : Nat} (h : ∀ j, j < i → f (lo + j) = false) (hi : i < n) (t : f (lo + i) = true) : firstW f lo n = some (lo + i) := by
  have e : (List.range n).find? (fun i => f (lo + i)) = some i := by
    rw [List.find?_range_eq_some]
    exact ⟨t, List.mem_range.mpr hi, fun j hj => by rw [h j hj]; rfl⟩
  unfold firstW
  rw [e]
  rfl
theorem firstW_lt {f : Nat → Bool} {lo n w : Nat} (h : firstW f lo n = some w) : lo ≤ w ∧ w < lo + n := by
  unfold firstW at h
  obtain ⟨i, hi, rfl⟩ := Option.map_eq_some_iff.mp h
  have := List.mem_range.mp (List.mem_of_find?_eq_some hi)
  omega
/-! the places of what is True -/
def placesTo (l : List Bool) (n : Nat) : List Nat := (List.range n).filter fun i => l.getD i false
def placesW (l : List Bool) : List Nat := placesTo l l.length
theorem placesTo_succ (l : List Bool) (n : Nat) : placesTo l (n + 1) = placesTo l n ++ (if l.getD n false = true then [n] else []) := by
  unfold placesTo
  rw [List.range_succ, List.filter_append]
  cases h : l.getD n false with
  | true => rw [List.filter_cons_of_pos (by simpa using h)]; rfl
  | false => rw [List.filter_cons_of_neg (by simpa using h)]; rfl
theorem count_take (l : List Bool) (n : Nat) (h : n < l.length) : (l.take (n + 1)).count true = (l.take n).count true + (if l.getD n false = true then 1 else 0) := by
  rw [List.take_add_one, List.getElem?_eq_getElem h, List.count_append, getD_lt h]
  cases l[n] <;> rfl
theorem placesTo_len (l : List Bool) : ∀ n, n ≤ l.length → (placesTo l n).length = (l.take n).count true
  | 0, _ => rfl
  | n + 1, h => by
    rw [placesTo_succ, List.length_append, placesTo_len l n (by omega), count_take l n (by omega)]
    split <;> rfl
theorem placesW_len (l : List Bool) : (placesW l).length = l.count true := by
  have := placesTo_len l l.length (Nat.le_refl _)
  rw [List.take_length] at this
  exact this
theorem placesTo_lt {l : List Bool} {n p : Nat} (h : p ∈ placesTo l n) : p < n := List.mem_range.mp (List.mem_filter.mp h).1
theorem placesTo_get (l : List Bool) : ∀ n, n ≤ l.length → ∀ k p, (placesTo l n)[k]? = some p → p < n ∧ l.getD p false = true ∧ (l.take p).count true = k
  | 0, _, k, p, h => by simp [placesTo] at h
  | n + 1, hn, k, p, h => by
    rw [placesTo_succ] at h
    have len := placesTo_len l n (by omega)
    by_cases hk : k < (placesTo l n).length
    · rw [List.getElem?_append_left hk] at h
      obtain ⟨a, b, c⟩ := placesTo_get l n (by omega) k p h
      exact ⟨by omega, b, c⟩
    · rw [List.getElem?_append_right (by omega)] at h
      split at h
      · rename_i t
        cases e : k - (placesTo l n).length with
        | zero =>
          rw [e] at h
          have h : some n = some p := h
          cases h
          exact ⟨by omega, t, by omega⟩
        | succ j => rw [e] at h; simp at h
      · simp at h
theorem placesW_get {l : List Bool} {k p : Nat} (h : (placesW l)[k]? = some p) : p < l.length ∧ l.getD p false = true ∧ (l.take p).count true = k := placesTo_get l l.length (Nat.le_refl _) k p h
theorem places_lt {l : List Bool} : ∀ x ∈ placesW l, x < l.length := fun x h => placesTo_lt h
def greatF (A T : List Bool) : Option Nat := if T.any id = true then none else (placesW A).getLast?
def belowF (A T : List Bool) (n : Nat) : Nat := if n ≤ A.length then (A.take n).count true else A.count true + (n - A.length) / T.length * T.count true + (T.take ((n - A.length) % T.length)).count true
def numbF (A T : List Bool) (k : Nat) : Option Nat :=
  if k < A.count true then (placesW A)[k]? else if T.any id = true then ((placesW T)[(k - A.count true) % T.count true]?).map fun p => A.length + (k - A.count true) / T.count true * T.length + p else none
theorem any_count (l : List Bool) : l.any id = true ↔ 0 < l.count true := by
  rw [List.count_pos_iff, List.any_eq_true]
  constructor
  · rintro ⟨x, hx, h⟩
    cases x
    · cases h
    · exact hx
  · exact fun h => ⟨true, h, rfl⟩
theorem numb_some {A T : List Bool} {k w : Nat} (h0 : 0 < T.length) (h : numbF A T k = some w) : itemW A T w = true ∧ belowF A T w = k := by
  unfold numbF at h
  split at h
  · rename_i hk
    obtain ⟨a, b, c⟩ := placesW_get h
    exact ⟨by rw [item_lt a]; exact b, by unfold belowF; rw [if_pos (by omega)]; exact c⟩
  · rename_i hk
    split at h
    · rename_i ht
      have tp := (any_count T).mp ht
      obtain ⟨p, hp, rfl⟩ := Option.map_eq_some_iff.mp h
      obtain ⟨a, b, c⟩ := placesW_get hp
      have e : A.length + (k - A.count true) / T.count true * T.length + p = A.length + (p + T.length * ((k - A.count true) / T.count true)) := by rw [Nat.mul_comm T.length]; omega
      have dm := Nat.div_add_mod (k - A.count true) (T.count true)
      rw [Nat.mul_comm] at dm
      have e1 : (p + T.length * ((k - A.count true) / T.count true)) % T.length = p := by rw [Nat.add_mul_mod_self_left, Nat.mod_eq_of_lt a]
      have e2 : (p + T.length * ((k - A.count true) / T.count true)) / T.length = (k - A.count true) / T.count true := by rw [Nat.add_mul_div_left _ _ h0, Nat.div_eq_of_lt a, Nat.zero_add]
      rw [e]
      refine ⟨by rw [item_ge, e1]; exact b, ?_⟩
      unfold belowF
      by_cases hz : A.length + (p + T.length * ((k - A.count true) / T.count true)) ≤ A.length
      · rw [if_pos hz]
        have z1 : p + T.length * ((k - A.count true) / T.count true) = 0 := by omega
        have z2 : p = 0 := by omega
        have z3 : (k - A.count true) / T.count true = 0 := by
          rw [← e2, z1, Nat.zero_div]
        rw [z1, Nat.add_zero, List.take_length]
        rw [z3, Nat.zero_mul, Nat.zero_add] at dm
        have c' : 0 = (k - A.count true) % T.count true := by rw [← c, z2]; rfl
        omega
      · rw [if_neg hz, Nat.add_sub_cancel_left, e1, e2, c]
        omega
    · cases h
theorem numb_none {A T : List Bool} {k : Nat} (h : numbF A T k = none) : T.any id = false ∧ A.count true ≤ k := by
  unfold numbF at h
  split at h
  · rename_i hk
    rw [List.getElem?_eq_none_iff, placesW_len] at h
    omega
  · rename_i hk
    split at h
    · rename_i ht
      have tp := (any_count T).mp ht
      rw [Option.map_eq_none_iff, List.getElem?_eq_none_iff, placesW_len] at h
      have := Nat.mod_lt (k - A.count true) tp
      omega
    · rename_i ht
      exact ⟨by simpa using ht, by omega⟩
theorem below_at {A T : List Bool} {n : Nat} (h : A.length < n) : belowF A T n = A.count true + (n - A.length) / T.length * T.count true + (T.take ((n - A.length) % T.length)).count true := if_neg (by omega)
theorem count_le (l : List Bool) : l.count true ≤ l.length := List.count_le_length
theorem numb_lt {A T : List Bool} {k w : Nat} (h : numbF A T k = some w) : w ≤ A.length + (k + 1) * T.length := by
  unfold numbF at h
  split at h
  · have := (placesW_get h).1
    omega
  · split at h
    · obtain ⟨p, hp, rfl⟩ := Option.map_eq_some_iff.mp h
      have := (placesW_get hp).1
      have l := Nat.mul_le_mul_right T.length (Nat.le_trans (Nat.div_le_self (k - A.count true) (T.count true)) (Nat.sub_le k (A.count true)))
      rw [Nat.succ_mul]
      omega
    · cases h
theorem below_le {A T : List Bool} {n : Nat} : belowF A T n ≤ A.length + (n + 1) * T.length := by
  unfold belowF
  have a := count_le A
  have b := count_le T
  split
  · have := count_le (A.take n)
    rw [List.length_take] at this
    omega
  · have c := count_le (T.take ((n - A.length) % T.length))
    rw [List.length_take] at c
    have l := Nat.mul_le_mul (Nat.le_trans (Nat.div_le_self (n - A.length) T.length) (Nat.sub_le n A.length)) b
    rw [Nat.succ_mul]
    omega
end Hw

set_option Elab.async false
set_option linter.all false
set_option maxRecDepth 100000
set_option maxHeartbeats 4000000
/-! texts of widths; options; the data of numbers -/
namespace Hw
open PySem PySem.Spec PyProof.Rows L2
def optV : Option Nat → V
  | none => .non
  | some w => .int (w : Int)
def optD : Option Nat → PyData
  | none => .none
  | some w => .int (w : Int)
theorem Dt.opt {H : Hp} (o : Option Nat) : Dt H (optV o) (optD o) := by
  cases o with
  | none => exact .non
  | some w => exact .int _
theorem opt_nice {o : Option Nat} (h : ∀ w, o = some w → w < 10 ^ 38) : Nice (optD o) := by
  cases o with
  | none => exact (Bnd.non (k := 0) (b := 0)).nice (by decide) (by decide)
  | some w => exact Nice.int (by have := h w rfl; omega)
/-! texts -/
def figN (b : Bool) : Nat := if b then 49 else 48
def figS (l : List Bool) : Str := ⟨(l.map figN).toArray⟩
def textS (A T : List Bool) : Str := figS A ++ "(" ++ figS T ++ ")"
def figT (b : Bool) : Str := if b = true then "1" else "0"
theorem figT_eq (b : Bool) : figT b = ⟨#[figN b]⟩ := by cases b <;> decide +kernel
theorem str_ext {x y : Str} (h : x.cps.toList = y.cps.toList) : x = y := by
  cases x
  cases y
  congr 1
  exact Array.ext' h
theorem app_cps (x y : Str) : (x ++ y).cps.toList = x.cps.toList ++ y.cps.toList := by
  show (x.cps ++ y.cps).toList = _
  rw [Array.toList_append]
theorem figS_cps (l : List Bool) : (figS l).cps.toList = l.map figN := rfl
theorem textS_cps (A T : List Bool) : (textS A T).cps.toList = (A.map figN ++ 40 :: T.map figN) ++ [41] := by
  unfold textS
  rw [app_cps, app_cps, app_cps, figS_cps, figS_cps]
  rw [show ("(" : Str).cps.toList = [40] by decide +kernel, show (")" : Str).cps.toList = [41] by decide +kernel, List.append_assoc (List.map figN A)]
  rfl
theorem join_figs : ∀ l : List Bool, Str.join ("" : Str) (l.map figT) = figS l
  | [] => by decide +kernel
  | [b] => by show figT b = _; rw [figT_eq]; rfl
  | b :: c :: r => by
    show figT b ++ ("" : Str) ++ Str.join "" ((c :: r).map figT) = _
    rw [join_figs (c :: r)]
    apply str_ext
    rw [app_cps, app_cps, figT_eq, show ("" : Str).cps.toList = [] by decide +kernel]
    rfl
theorem figN_lt (b : Bool) : figN b < 50 := by cases b <;> decide
theorem figS_len (l : List Bool) : (figS l).length = l.length := by
  show (l.map figN).toArray.size = _
  rw [List.size_toArray, List.length_map]
theorem textS_len (A T : List Bool) : (textS A T).length = A.length + T.length + 2 := by
  have e : (textS A T).length = (textS A T).cps.toList.length := (Array.length_toList ..).symm
  rw [e, textS_cps]
  simp only [List.length_append, List.length_cons, List.length_map, List.length_nil]
  omega
theorem textS_shows {A T : List Bool} (h : A.length ≤ 1000) (h' : T.length ≤ 1000) : Shows (.str (textS A T)) := by
  have all : ∀ c ∈ (textS A T).cps.toList, c < 50 := by
    intro c hc
    rw [textS_cps] at hc
    simp only [List.mem_append, List.mem_cons, List.mem_map, List.not_mem_nil, or_false] at hc
    rcases hc with (⟨b, _, rfl⟩ | rfl | ⟨b, _, rfl⟩) | rfl
    · exact figN_lt b
    · decide
    · exact figN_lt b
    · decide
  have nice : Bnd 0 2002 (.str (textS A T)) := by
    refine Bnd.str ?_ (by have := textS_len A T; show (textS A T).length ≤ _; omega)
    simp only [okD, Bool.and_eq_true]
    refine ⟨?_, ?_⟩
    · show (textS A T).cps.all (· < 0x110000) = true
      rw [← Array.all_toList, List.all_eq_true]
      intro c hc
      have := all c hc
      exact decide_eq_true (by omega)
    · rw [List.all_eq_true]
      intro c hc
      have := all c hc
      exact decide_eq_true (by omega)
  exact (nice.nice (by decide) (by decide)).shows
theorem text_last (A T : List Bool) : cutS (textS A T) (some (-1)) none = ")" := by
  have l := textS_len A T
  have e : HT.sIx (textS A T).length 0 (some (-1)) = A.length + T.length + 1 := by
    show (if (-1 : Int) < 0 then ((-1 : Int) + ((textS A T).length : Int)).toNat else min (-1 : Int).toNat (textS A T).length) = _
    rw [if_pos (by decide), l]
    omega
  apply str_ext
  unfold cutS
  rw [HT.sIx_none, e, l, textS_cps]
  show ((_ : List Nat).drop _).take _ = _
  rw [List.drop_left' (by simp only [List.length_append, List.length_cons, List.length_map]; omega), show A.length + T.length + 2 - (A.length + T.length + 1) = 1 by omega]
  decide +kernel
theorem text_front (A T : List Bool) : cutS (textS A T) none (some (-1)) = figS A ++ "(" ++ figS T := by
  have l := textS_len A T
  have e : HT.sIx (textS A T).length (textS A T).length (some (-1)) = A.length + T.length + 1 := by
    show (if (-1 : Int) < 0 then ((-1 : Int) + ((textS A T).length : Int)).toNat else min (-1 : Int).toNat (textS A T).length) = _
    rw [if_pos (by decide), l]
    omega
  apply str_ext
  unfold cutS
  rw [HT.sIx_none, e, textS_cps, app_cps, app_cps, figS_cps, figS_cps]
  show ((_ : List Nat).drop 0).take _ = _
  rw [List.drop_zero, Nat.sub_zero, List.take_left' (by simp only [List.length_append, List.length_cons, List.length_map]; omega), show ("(" : Str).cps.toList = [40] by decide +kernel, List.append_assoc]
  rfl
theorem text_parts (A T : List Bool) : Txt.partition (figS A ++ "(" ++ figS T) "(" = (figS A, ("(" : Str), figS T) := by
  refine TL.partition_app (s := 40) (S := []) (by decide +kernel) fun h => ?_
  have h : 40 ∈ A.map figN := h
  obtain ⟨b, _, hb⟩ := List.mem_map.mp h
  cases b <;> cases hb
end Hw

set_option Elab.async false
set_option linter.all false
set_option maxRecDepth 100000
set_option maxHeartbeats 4000000
/-! sets of widths joined, by their items -/
namespace Hw
open PySem PySem.Spec PyProof.Rows L2
def tellL (f : Nat → Bool) (n : Nat) : List Bool := (List.range n).map f
theorem tellL_len (f : Nat → Bool) (n : Nat) : (tellL f n).length = n := by unfold tellL; rw [List.length_map, List.length_range]
theorem tellL_get {f : Nat → Bool} {n i : Nat} (h : i < n) : (tellL f n).getD i false = f i := by
  rw [getD_lt (by rw [tellL_len]; exact h)]
  unfold tellL
  rw [List.getElem_map, List.getElem_range]
theorem tellL_snoc (f : Nat → Bool) (n : Nat) : tellL f n ++ [f n] = tellL f (n + 1) := by
  unfold tellL
  rw [List.range_succ, List.map_append]
  rfl
theorem tell_take (f : Nat → Bool) (m t : Nat) : (tellL f (m + t)).take m = tellL f m := by
  refine ext_getD (by rw [List.length_take, tellL_len, tellL_len]; omega) fun i hi => ?_
  rw [List.length_take, tellL_len] at hi
  rw [getD_take (by omega), tellL_get (by omega), tellL_get (by omega)]
theorem tell_drop (f : Nat → Bool) (m t : Nat) : (tellL f (m + t)).drop m = tellL (fun i => f (m + i)) t := by
  refine ext_getD (by rw [List.length_drop, tellL_len, tellL_len]; omega) fun i hi => ?_
  rw [List.length_drop, tellL_len] at hi
  rw [getD_drop, tellL_get (by omega), tellL_get (by omega)]
theorem item_tell {f : Nat → Bool} {m t : Nat} (ht : 0 < t) (h : EvP f m t) (w : Nat) : itemW (tellL f m) (tellL (fun i => f (m + i)) t) w = f w := by
  by_cases hw : w < m
  · rw [item_lt (by rw [tellL_len]; exact hw), tellL_get hw]
  · rw [item_ge' (by rw [tellL_len]; omega), tellL_len, tellL_len, tellL_get (Nat.mod_lt _ ht)]
    have k := h.mul ((w - m) / t) (m + (w - m) % t) (by omega)
    have e := Nat.mod_add_div (w - m) t
    rw [← k]
    congr 1
    omega
theorem tell_plain {f : Nat → Bool} {m t n u : Nat} (ht : 0 < t) (hu : 0 < u) (h : EvP f m t) (k : EvP f n u) : plainF (tellL f m) (tellL (fun i => f (m + i)) t) = plainF (tellL f n) (tellL (fun i => f (n + i)) u) :=
  plainF_congr (by rw [tellL_len]; exact ht) (by rw [tellL_len]; exact hu) fun w => by rw [item_tell ht h, item_tell hu k]
theorem EvP.two {f g : Nat → Bool} {n p m q : Nat} (F : Bool → Bool → Bool) (h : EvP f n p) (k : EvP g m q) {r l : Nat} (hn : n ≤ r) (hm : m ≤ r) (hp : p ∣ l) (hq : q ∣ l) : EvP (fun w => F (f w) (g w)) r l := fun w hw => by
  obtain ⟨a, rfl⟩ := hp
  obtain ⟨b, hb⟩ := hq
  show F (f (w + p * a)) (g (w + p * a)) = _
  rw [h.mul a w (by omega), hb, k.mul b w (by omega)]
/-- how two sets are joined -/
def wayW (way : Str) (a b : Bool) : Bool := if way = "and" then a && b else if way = "or" then a || b else a != b
def bothW (F : Bool → Bool → Bool) (A T A' T' : List Bool) : Nat → Bool := fun w => F (itemW A T w) (itemW A' T' w)
theorem bothW_short (F : Bool → Bool → Bool) (A T A' T' : List Bool) : EvP (bothW F A T A' T') (max A.length A'.length) (Nat.lcm T.length T'.length) :=
  EvP.two F (evp_item A T) (evp_item A' T') (Nat.le_max_left _ _) (Nat.le_max_right _ _) (Nat.dvd_lcm_left _ _) (Nat.dvd_lcm_right _ _)
theorem bothW_long (F : Bool → Bool → Bool) (A T A' T' : List Bool) : EvP (bothW F A T A' T') (A.length + A'.length) (T.length * T'.length) :=
  EvP.two F (evp_item A T) (evp_item A' T') (by omega) (by omega) ⟨_, rfl⟩ ⟨_, Nat.mul_comm _ _⟩
def joinF (F : Bool → Bool → Bool) (A T A' T' : List Bool) : List Bool × List Bool :=
  plainF (tellL (bothW F A T A' T') (max A.length A'.length)) (tellL (fun i => bothW F A T A' T' (max A.length A'.length + i)) (Nat.lcm T.length T'.length))
theorem joinF_long {F : Bool → Bool → Bool} {A T A' T' : List Bool} (h : 0 < T.length) (h' : 0 < T'.length) :
    plainF (tellL (bothW F A T A' T') (A.length + A'.length)) (tellL (fun i => bothW F A T A' T' (A.length + A'.length + i)) (T.length * T'.length)) = joinF F A T A' T' :=
  tell_plain (Nat.mul_pos h h') (Nat.lcm_pos h h') (bothW_long F A T A' T') (bothW_short F A T A' T')
/-- the first place at which f holds, below n -/
def findW (f : Nat → Bool) (n : Nat) : Option Nat := (List.range n).find? f
theorem findW_none {f : Nat → Bool} {n : Nat} (h : ∀ i, i < n → f i = false) : findW f n = none := by
  unfold findW
  rw [List.find?_eq_none]
  intro x hx
  rw [h x (List.mem_range.mp hx)]
  exact Bool.false_ne_true
theorem findW_some {f : Nat → Bool} {n i : Nat} (h : ∀ j, j < i → f j = false) (hi : i < n) (t : f i = true) : findW f n = some i := by
  unfold findW
  obtain ⟨m, rfl⟩ : ∃ m, n = i + 1 + m := ⟨n - (i + 1), by omega⟩
  rw [List.range_add, List.range_succ, List.append_assoc, List.find?_append, List.find?_eq_none.mpr (fun x hx => by rw [h x (List.mem_range.mp hx)]; exact Bool.false_ne_true), List.find?_append]
  simp [t]
theorem findW_lt {f : Nat → Bool} {n i : Nat} (h : findW f n = some i) : i < n ∧ f i = true := by
  unfold findW at h
  exact ⟨List.mem_range.mp (List.mem_of_find?_eq_some h), List.find?_some h⟩
theorem findW_off {f : Nat → Bool} {n : Nat} (h : findW f n = none) : ∀ i, i < n → f i = false := fun i hi => by
  unfold findW at h
  have := List.find?_eq_none.mp h i (List.mem_range.mpr hi)
  cases z : f i with
  | false => rfl
  | true => exact absurd z this
/-- of a function that comes round, the whole is told by its beginning -/
theorem ev_all {f : Nat → Bool} {m t : Nat} (ht : 0 < t) (h : EvP f m t) (z : ∀ i, i < m + t → f i = false) : ∀ i, f i = false := fun i => by
  by_cases hi : i < m
  · exact z i (by omega)
  · have lt := Nat.mod_lt (i - m) ht
    have k := h.mul ((i - m) / t) (m + (i - m) % t) (by omega)
    have e := Nat.mod_add_div (i - m) t
    rw [show i = m + (i - m) % t + t * ((i - m) / t) by omega, k]
    exact z _ (by omega)
theorem findW_eq {f : Nat → Bool} {m t n : Nat} (ht : 0 < t) (h : EvP f m t) (hn : m + t ≤ n) : findW f n = findW f (m + t) := by
  cases z : findW f (m + t) with
  | none => exact findW_none fun i _ => ev_all ht h (findW_off z) i
  | some i =>
    obtain ⟨lt, yes⟩ := findW_lt z
    refine findW_some (fun j hj => ?_) (by omega) yes
    cases y : f j with
    | false => rfl
    | true =>
      have lst : ∀ k, k ≤ i → (∀ j, j < k → f j = false) ∨ ∃ j, j < k ∧ f j = true ∧ ∀ l, l < j → f l = false := by
        intro k
        induction k with
        | zero => intro _; exact .inl fun j h => absurd h (Nat.not_lt_zero _)
        | succ k ih =>
          intro hk
          rcases ih (by omega) with q | ⟨j, a, b, c⟩
          · cases x : f k with
            | true => exact .inr ⟨k, Nat.lt_succ_self _, x, q⟩
            | false =>
              refine .inl fun j hj => ?_
              rcases Nat.lt_succ_iff_lt_or_eq.mp hj with h | h
              · exact q j h
              · rw [h]; exact x
          · exact .inr ⟨j, by omega, b, c⟩
      rcases lst i (Nat.le_refl _) with q | ⟨l, a, b, c⟩
      · rw [q j hj] at y
        cases y
      · rw [findW_some c (by omega) b] at z
        have := Option.some.inj z
        omega
theorem filter_first (f : Nat → Bool) (n : Nat) : ((List.range n).filter f)[0]? = findW f n := by
  unfold findW
  rw [← List.head?_eq_getElem?, List.head?_filter]
def diffW (A T A' T' : List Bool) : Nat → Bool := bothW (fun a b => a != b) A T A' T'
def partF (A T A' T' : List Bool) : Option Nat := findW (diffW A T A' T') (max A.length A'.length + Nat.lcm T.length T'.length)
theorem partF_long {A T A' T' : List Bool} (h : 0 < T.length) (h' : 0 < T'.length) : findW (diffW A T A' T') (A.length + A'.length + T.length * T'.length) = partF A T A' T' :=
  findW_eq (Nat.lcm_pos h h') (bothW_short _ A T A' T') (by
    have h1 : max A.length A'.length ≤ A.length + A'.length := by omega
    have h2 : Nat.lcm T.length T'.length ≤ T.length * T'.length := Nat.div_le_self _ _
    omega)
theorem partF_none {A T A' T' : List Bool} (h : 0 < T.length) (h' : 0 < T'.length) : partF A T A' T' = none ↔ plainF A T = plainF A' T' := by
  constructor
  · intro z
    refine plainF_congr h h' fun w => ?_
    have := ev_all (Nat.lcm_pos h h') (bothW_short _ A T A' T') (findW_off z) w
    exact of_decide_eq_true (by
      have e : (itemW A T w != itemW A' T' w) = false := this
      simpa using e)
  · intro e
    refine findW_none fun i _ => ?_
    show (itemW A T i != itemW A' T' i) = false
    rw [← plainF_item h, ← plainF_item h' i, e]
    simp
def notL (l : List Bool) : List Bool := l.map (!·)
theorem notL_len (l : List Bool) : (notL l).length = l.length := List.length_map ..
theorem notL_get {l : List Bool} {i : Nat} (h : i < l.length) : (notL l).getD i false = !l.getD i false := by
  rw [getD_lt (by rw [notL_len]; exact h), getD_lt h]
  unfold notL
  rw [List.getElem_map]
theorem item_not {A T : List Bool} (h : 0 < T.length) (w : Nat) : itemW (notL A) (notL T) w = !itemW A T w := by
  by_cases hw : w < A.length
  · rw [item_lt (by rw [notL_len]; exact hw), item_lt hw, notL_get hw]
  · rw [item_ge' (by rw [notL_len]; omega), item_ge' (by omega), notL_len, notL_len, notL_get (Nat.mod_lt _ h)]
theorem not_twice {A T : List Bool} (h : 0 < T.length) : plainF (notL (plainF (notL A) (notL T)).1) (notL (plainF (notL A) (notL T)).2) = plainF A T := by
  have h1 : 0 < (notL T).length := by rw [notL_len]; exact h
  have h2 := plainF_pos (A := notL A) h1
  refine plainF_congr (by rw [notL_len]; exact h2) h fun w => ?_
  rw [item_not h2, plainF_item h1, item_not h, Bool.not_not]
end Hw

set_option Elab.async false
set_option linter.all false
set_option maxRecDepth 100000
set_option maxHeartbeats 4000000
/-! own exceptions as values, made with keywords too -/
namespace Hw
open PySem PySem.Spec PyProof.Rows L2
open PySem.W PySem.Calls PySem.HandSPX
section
variable {prog : Program} {w : World} {A : Around} {E : Value → Shared → Prop} {R : Result → Shared → Prop} {h : Heap} {g : Array GenState} {d : Drawn} {t : Nat} {os : OsState}
variable {nm q : Str} {C N : Addr} {bs bm bmB : List Value} {hdct : Bool} {sn : List Str} {sub : List Value} {ab : Bool} {col : Option Bool} {dd : Option Addr} {k0 k1 k2 k3 k5 : Option Value} {B newId initId : String}
variable {rest : List Value} {kw : List (Str × Value)}
/-- the check of the maker's call, keywords or not -/
theorem new_checks {M : Model} {Q : Unit → Shared → Prop} (F : ExcBaseFacts B newId initId bmB) (tail : ∀ Y : String, bm.contains (.type Y) = bmB.contains (.type Y))
    (hC : h.get? C = some (excClassObj nm q C N bs bm hdct sn sub ab col dd k0 k1 k2 k3 k5 newId)) (next : Q () ⟨h, g, d, t, os⟩) : wpAny M A (checkBuiltinCall newId ⟨.ref C :: rest, kw⟩) Q E ⟨h, g, d, t, os⟩ := by
  have isB : (Value.ref C :: bm).contains (.type B) = true := by
    rw [List.contains_cons, tail, F.hasB]
    exact Bool.or_true _
  have ns := F.noStar
  simp only [checkBuiltinCall, F.newKind, F.newSplit, F.newRow]
  repeat' (first
    | refine wpAny_loadPart_at hC ?_
    | (refine wpAny_isSubtype_exc hC ?_
       rw [isB])
    | refine wpAny_staticBase_exc hC ?_
    | refine wpAny_madeBy_exc hC ?_
    | simp only [bne_self_eq_false, Bool.false_eq_true, if_false]
    | wp_step)
  all_goals first | exact next | skip
/-- the maker itself: a tuple of what it got by position, the exception -/
theorem new_makes (F : ExcBaseFacts B newId initId bmB) (tail : ∀ Y : String, bm.contains (.type Y) = bmB.contains (.type Y))
    (hC : h.get? C = some (excClassObj nm q C N bs bm hdct sn sub ab col dd k0 k1 k2 k3 k5 newId)) (few : rest.length ≤ sizeLine)
    (next : R (.ok (.ret (.ref (h.objs.size + 1)))) ⟨(h.push (W.kdv_tup rest)).push (excO C h.objs.size), g, d, t, os⟩) :
    codeAny (model prog w) A (.builtin newId ⟨.ref C :: rest, kw⟩) R ⟨h, g, d, t, os⟩ := by
  have e1 := F.ends
  have isB : (Value.ref C :: bm).contains (.type B) = true := by
    rw [List.contains_cons, tail, F.hasB]
    exact Bool.or_true _
  have noA : (Value.ref C :: bm).contains (.type "AttributeError") = false := by
    rw [List.contains_cons, tail, F.noAttr]
    rfl
  have noN : (Value.ref C :: bm).contains (.type "NameError") = false := by
    rw [List.contains_cons, tail, F.noName]
    rfl
  refine codeAny_builtinAt F.entry ?_
  unfold Builtin.«BaseException.__new__»
  refine PySem.wpAt_bind ?_
  show PySem.wpAt _ _ _ (stack >>= _) _ _ _
  refine PySem.wpAt_bind (PySem.wpAt_stack fun p below => PySem.wpAt_of_wpAny ?_)
  wp_walk
  refine PySem.wpAt_of_wpAny ?_
  rw [F.owner]
  repeat (first
    | with_reducible refine wpAny_madeHere_exc F.canon hC ?_
    | with_reducible refine wpAny_loadPart_at hC ?_
    | (with_reducible refine wpAny_isSubtype_exc hC ?_
       first | rw [isB] | rw [noA] | rw [noN])
    | wp_step)
  show R _ _
  rw [Heap.size_push]
  exact next
theorem type_makes {fI : Addr} {Q : Fin → Shared → Prop} (F : ExcBaseFacts B newId initId bmB) (tail : ∀ Y : String, bm.contains (.type Y) = bmB.contains (.type Y))
    (hC : h.get? C = some (excClassObj nm q C N bs bm hdct sn sub ab col dd k0 k1 k2 k3 k5 newId))
    (look : W.Looks (model prog w) h (typeLookup (.ref C) "__init__") (some (.ref fI))) (bound : ∀ self, W.Looks (model prog w) h (bindSpecial (.ref fI) self) (.ref fI, [self])) (few : rest.length ≤ sizeLine)
    (run : codeAny (model prog w) A (.call (.ref fI) ⟨.ref (h.objs.size + 1) :: rest, kw⟩) (fun r s' => match r with
        | .ok (.ret v) => v = .none ∧ Q (.done (.ret (.ref (h.objs.size + 1)))) s'
        | .ok _ => False
        | .error e => E e s') ⟨(h.push (W.kdv_tup rest)).push (excO C h.objs.size), g, d, t, os⟩) :
    wpAny (model prog w) A (Builtin.«type.__call__» ⟨.ref C :: rest, kw⟩) Q E ⟨h, g, d, t, os⟩ := by
  repeat (first
    | with_reducible refine wpAny_loadPart_at hC ?_
    | with_reducible refine wpAny_madeBy_exc hC ?_
    | wp_step)
  refine codeAny_call_builtin_code (Code.quiet_builtin _ F.quiet) (new_checks F tail hC ?_)
  refine new_makes F tail hC few ?_
  show wpAny _ _ _ _ _ _
  have kept : ∀ b o, h.get? b = some o → ((h.push (W.kdv_tup rest)).push (excO C h.objs.size)).get? b = some o := fun b o e => Heap.get?_push_of_some _ (Heap.get?_push_of_some _ e)
  have c1 := kept _ _ hC
  have made : ((h.push (W.kdv_tup rest)).push (excO C h.objs.size)).get? (h.objs.size + 1) = some (excO C h.objs.size) := by heap_get
  have self_in : (Value.ref C :: bm).contains (.ref C) = true := by simp
  have l1 := look.keeps kept
  have b1 := (bound (.ref (h.objs.size + 1))).keeps kept
  unfold isInstance
  repeat (first
    | with_reducible refine wpAny_loadPart_at made ?_
    | (with_reducible refine wpAny_isSubtype_exc c1 ?_
       rw [self_in])
    | wp_step)
  show wpAny _ _ (typeLookup (.ref C) _) _ _ _
  refine l1.at (wpAny_holding (wpAny_bind (b1.at (wpAny_bind (wpAny_call (codeAny_mono run fun r s' z => ?_))))))
  cases r with
  | error e => exact z
  | ok v =>
    cases v with
    | ret v =>
      obtain ⟨rfl, z⟩ := z
      first
        | exact wpAny_pure (wpAny_pure z)
        | (wp_walk
           exact z)
    | next => exact z.elim
    | brk => exact z.elim
    | cont => exact z.elim
theorem type_checks {M : Model} {Q : Unit → Shared → Prop} (hC : h.get? C = some (excClassObj nm q C N bs bm hdct sn sub ab col dd k0 k1 k2 k3 k5 newId)) (next : Q () ⟨h, g, d, t, os⟩) : wpAny M A (checkBuiltinCall "type.__call__" ⟨.ref C :: rest, kw⟩) Q E ⟨h, g, d, t, os⟩ := by
  have sub := tc_sub
  have ty : (⟨h, g, d, t, os⟩ : Shared).TypeIs (.ref C) "type" := ⟨_, hC, rfl⟩
  simp only [checkBuiltinCall, tc_kind, tc_split]
  repeat (any_goals (first
    | assumption
    | with_reducible refine wpAny_loadPart_at hC ?_
    | with_reducible refine wpAny_onRaise ?_
    | with_reducible refine wpAny_map ?_
    | wp_step))
/-- C(.., name=..): an own exception whose __init__ is a def -/
theorem call_makes {fI : Addr} (F : ExcBaseFacts B newId initId bmB) (tail : ∀ Y : String, bm.contains (.type Y) = bmB.contains (.type Y))
    (hC : h.get? C = some (excClassObj nm q C N bs bm hdct sn sub ab col dd k0 k1 k2 k3 k5 newId))
    (look : W.Looks (model prog w) h (typeLookup (.ref C) "__init__") (some (.ref fI))) (bound : ∀ self, W.Looks (model prog w) h (bindSpecial (.ref fI) self) (.ref fI, [self])) (few : rest.length ≤ sizeLine)
    (run : codeAny (model prog w) (A.under (.builtin "type.__call__" ⟨.ref C :: rest, kw⟩)) (.call (.ref fI) ⟨.ref (h.objs.size + 1) :: rest, kw⟩) (W.InitBack (h.objs.size + 1) R)
      ⟨(h.push (W.kdv_tup rest)).push (excO C h.objs.size), g, d, t, os⟩) :
    codeAny (model prog w) A (.call (.ref C) ⟨rest, kw⟩) R ⟨h, g, d, t, os⟩ := by
  have f1 := tc_lookup
  have f2 := tc_bind (.ref C)
  have ty : (⟨h, g, d, t, os⟩ : Shared).TypeIs (.ref C) "type" := ⟨_, hC, rfl⟩
  refine codeAny_of_tree ?_
  show wpAny _ _ (callAny (.ref C) _) _ _ _
  repeat (any_goals (first
    | assumption
    | with_reducible refine wpAny_loadPart_at hC ?_
    | wp_step))
  refine ⟨rfl, ?_⟩
  refine codeAny_call_builtin_at (Code.quiet_builtin _ (by decide +kernel)) entry_typeCall (type_checks hC (type_makes F tail hC look bound few (codeAny_mono run fun r s' z => ?_)))
  rcases r with e | (v | _ | _ | _)
  all_goals exact z
end
end Hw

namespace Hw
open PySem PySem.Spec PyProof.Rows L2
/-- what is asked of an own exception class whose __init__ keeps its value -/
structure XcF (K : PySem.W.Frag) (C : Addr) : Prop where
  oex : OexC K C
  fld : XfC K C
  cl : PySem.W.findIn K (.ref C) "__class__" = some (some (.builtin "object.__class__"))
  sp : PySem.W.specialIn K (.builtin "object.__class__") "__get__" = some (some (.builtin "getset_descriptor.__get__"))
  tk : PySem.W.takesIn K (.builtin "object.__class__") = some true
  ob : PySem.W.mroIn K C (.type "object") = some true
  is : (PySem.W.clsIn K C).isSome = true
  no : PySem.W.findIn K (.ref C) "value" = some none
def shapeB (K : PySem.W.Frag) (C : Addr) : Bool := match K.lookup C with
  | some ⟨.type t, _, .cls cd, sl⟩ => (match cd.mro, sl.toList with
    | .ref c0 :: bm, [_, _, _, _, some (.builtin nw), _] => decide (t = "type") && (decide (c0 = C) && (decide (nw = "ValueError.__new__") && (cd.hasDict && (!cd.hasDel && PySem.HandSPX.refsVE bm))))
    | _, _ => false)
  | _ => false
theorem shape_ok {K : PySem.W.Frag} {C : Addr} (h : shapeB K C = true) : ∃ nm q N bs bm sn sub ab col dd k0 k1 k2 k3 k5, K.lookup C = some (excClassObj nm q C N bs bm true sn sub ab col dd k0 k1 k2 k3 k5 "ValueError.__new__") ∧ PySem.HandSPX.refsVE bm = true := by
  unfold shapeB at h
  split at h
  · rename_i t dd cd sl look
    split at h
    · rename_i c0 bm k0 k1 k2 k3 nw k5 e1 e2
      simp only [Bool.and_eq_true, decide_eq_true_eq, Bool.not_eq_true'] at h
      obtain ⟨ht, hc, hn, hd, hl, hv⟩ := h
      subst ht hc hn
      obtain ⟨nm, bs, mro, ns, qn, hd', sn, sub, ab, col, del⟩ := cd
      dsimp only at e1 hd hl
      subst e1 hd hl
      have es : sl = #[k0, k1, k2, k3, some (.builtin "ValueError.__new__"), k5] := by
        obtain ⟨l⟩ := sl
        dsimp only at e2
        rw [e2]
      subst es
      exact ⟨nm, qn, ns, bs, bm, sn, sub, ab, col, dd, k0, k1, k2, k3, k5, look, hv⟩
    · cases h
  · cases h
def xcB (K : PySem.W.Frag) (C : Addr) : Bool :=
  shapeB K C && (He.eqO (PySem.W.findIn K (.ref C) "__setattr__") (some (some (.builtin "object.__setattr__"))) && (decide (PySem.W.subIn K (.ref C) (.type "BaseException") = some true) && (decide (PySem.W.typeIn K (.ref C) = some (.type "type")) && (PySem.W.keepIn K (.ref C) &&
  (xfB K C && (He.eqO (PySem.W.findIn K (.ref C) "__class__") (some (some (.builtin "object.__class__"))) && (He.eqO (PySem.W.specialIn K (.builtin "object.__class__") "__get__") (some (some (.builtin "getset_descriptor.__get__"))) &&
  (decide (PySem.W.takesIn K (.builtin "object.__class__") = some true) && (decide (PySem.W.mroIn K C (.type "object") = some true) && ((PySem.W.clsIn K C).isSome && He.eqO (PySem.W.findIn K (.ref C) "value") (some none)))))))))))
theorem xcB_ok {K : PySem.W.Frag} {C : Addr} (h : xcB K C = true) : XcF K C := by
  unfold xcB at h
  obtain ⟨h1, h⟩ := He.ba h
  obtain ⟨h2, h⟩ := He.ba h
  obtain ⟨h3, h⟩ := He.ba h
  obtain ⟨h4, h⟩ := He.ba h
  obtain ⟨h5, h⟩ := He.ba h
  obtain ⟨h6, h⟩ := He.ba h
  obtain ⟨h7, h⟩ := He.ba h
  obtain ⟨h8, h⟩ := He.ba h
  obtain ⟨h9, h⟩ := He.ba h
  obtain ⟨hA, h⟩ := He.ba h
  obtain ⟨hB, hC⟩ := He.ba h
  exact ⟨⟨shape_ok h1, He.eqO_ok h2, of_decide_eq_true h3, of_decide_eq_true h4, h5⟩, xfB_ok h6, He.eqO_ok h7, He.eqO_ok h8, of_decide_eq_true h9, of_decide_eq_true hA, hB, He.eqO_ok hC⟩
section
variable {X : Cx}
/-- e.value of an own exception that is held -/
def tXv (K : PySem.W.Frag) (n : Str) (te : TE) : TE := fun σ H Q => te σ H fun x H1 => ∃ (a C d : Addr) (fs : List (Str × V)) (y : V), x = .ref a ∧ XfC K C ∧ PySem.W.findIn K (.ref C) n = some none ∧ H1 a = some (exo a C (some d)) ∧ H1 d = some (exd d fs) ∧ fs.lookup n = some y ∧ Q y H1
theorem pe_xv {K : PySem.W.Frag} {e : Expr} {te : TE} {pos : Pos} {n : Str} (hK : X.K = K) (he : PE X e te) (hb : attributeBase e n X.env (eval e X.env) = eval e X.env := by rfl) : PE X (.Attribute e n pos) (tXv K n te) := by
  subst hK
  constructor
  intro pins s σ H Q I h
  refine attr_of hb (thn (he.run pins s σ H _ I h) ?_)
  rintro u s1 ⟨x, H1, I1, rx, a, C, d, fs, y, rfl, T, no, ea, ed, l, q⟩
  cases (show u = Value.ref a from rx)
  obtain ⟨t1, oa⟩ := exo_at I1.hok ea
  obtain ⟨mA, ns, rel⟩ := exd_at I1.hok ed
  obtain ⟨od, look, val⟩ := lookIn_ns ns
  obtain ⟨v, hv, rv⟩ := RelO.some_of (v := y) (o := mA n) (by rw [← l]; exact rel n)
  have at_ : PySem.W.InstAt s1.heap a { cls := .ref C, dict := some d, data := .fields #[.ref t1, .none, .none, .none, .bool false, .none] } C (some od) := ⟨oa, rfl, rfl, look⟩
  exact HandSPX.exc_get I1.kIn at_ T.ga T.gg T.exC (PySem.W.findObj_own T.hdC no rfl (by rw [val, hv])) (handed_of rv) ⟨y, H1, I1.tok _, rv, q⟩
/-- isinstance(e, T) of an own exception that is held -/
def rIsX (K : PySem.W.Frag) : List V → Hp → VK → Prop := fun xs H Q => ∃ (a C : Addr) (d : Option Addr) (c : V) (u : Value) (b : Bool), xs = [.ref a, c] ∧ ClsV c u ∧ XcF K C ∧ H a = some (exo a C d) ∧ (∀ e, d = some e → ∃ fs, H e = some (exd e fs)) ∧ PySem.W.kitOne K (.ref C) u = some b ∧ Q (.bl b) H
theorem call_isX {K : PySem.W.Frag} (hK : X.K = K) : CallR X (.builtin "isinstance") (rIsX K) := by
  subst hK
  intro pins s σ H xs us Q I r h
  obtain ⟨a, C, d, c, u, b, rfl, k, T, ea, hd, e, q⟩ := h
  obtain ⟨u1, u2, rfl, r1, r2⟩ := vals2 r
  cases k.eq r2
  cases (show u1 = Value.ref a from r1)
  obtain ⟨t1, oa⟩ := exo_at I.hok ea
  have is : ∃ od, PySem.W.InstAt s.heap a { cls := .ref C, dict := d, data := .fields #[.ref t1, .none, .none, .none, .bool false, .none] } C od := by
    cases d with
    | none => exact ⟨none, oa, rfl, rfl, trivial⟩
    | some d =>
      obtain ⟨fs, ed⟩ := hd d rfl
      obtain ⟨mA, ns, _⟩ := exd_at I.hok ed
      obtain ⟨od, look, _⟩ := lookIn_ns ns
      exact ⟨some od, oa, rfl, rfl, look⟩
  obtain ⟨od, J⟩ := is
  exact PySem.W.kia_one (PySem.W.kitx_exc T.is T.fld.ga T.fld.gg T.oex.exC T.cl T.sp T.tk T.ob) I.kIn J e (fun z => nomatch z) fun tk => ⟨.bl b, H, I.tok tk, rfl, q⟩
end
end Hw

set_option Elab.async false
set_option linter.all false
set_option maxRecDepth 100000
set_option maxHeartbeats 4000000
/-! C(value), C(value=..), C(): an own exception is made and held -/
namespace Hw
open PySem PySem.Spec PyProof.Rows L2
/-- the promise of such an __init__ -/
def spInit (K : PySem.W.Frag) : Sp := fun vs H Q _ => ∃ (a C : Addr) (y : V), vs = [.ref a, y] ∧ OexC K C ∧ PySem.W.findIn K (.ref C) "value" = some none ∧ H a = some (exo a C none) ∧ ∀ d, H d = none → d ≠ a → Q .non (upd (upd H d (exd d [("value", y)])) a (exo a C (some d)))
/-- what was made: a, its dict d, the value y -/
def Made (H : Hp) (C : Addr) (y : V) (Q : VK) : Prop := ∀ (a d : Addr) (H' : Hp), H a = none → H d = none → d ≠ a → Same H H' → H' a = some (exo a C (some d)) → H' d = some (exd d [("value", y)]) → Q (.ref a) H'
section
variable {X : Cx} {CX : CXT} {k : Nat} {fI C : Addr} {fd : FuncData}
theorem run_made {pins : List (Addr × Obj)} {σ : L2.St} {H : Hp} {s : Shared} {Q : VK} {us0 : List Value} {kw : List (Str × Value)} {u : Value} {y : V} (T : XcF X.K C) (iC : PySem.W.findIn X.K (.ref C) "__init__" = some (some (.ref fI))) (tI : PySem.W.typeIn X.K (.ref fI) = some (.type "function"))
    (F : FnG X.prog X.w X.K X.mg X.base CX k fI fd ["self", "value"] (spInit X.K)) (gd : Gd X.A) (hr : Room (k + 1) X.A) (hx : Passes CX X (fun _ _ _ => False)) (I : Inv X pins σ H s)
    (hb : ∀ (s : Shared) (e : Value), X.K.In s.heap → BindsTo s fd ⟨e :: us0, kw⟩ ((["self", "value"] : List Str).zip [e, u])) (ry : RelV y u) (few : us0.length ≤ sizeLine) (h : Made H C y Q) :
    wpAny (model X.prog X.w) X.A (call (.ref C) us0 kw) (EP X pins σ Q) X.xe s := by
  obtain ⟨nm, q, N, bs, bm, sn, sub, ab, col, dd, k0, k1, k2, k3, k5, hC, hbm⟩ := T.oex.cls
  obtain ⟨hp, g, dr, tk, os⟩ := s
  have gone : H (hp.objs.size + 1) = none := I.hok.fresh (Nat.le_succ _)
  have at_ : ((hp.push (PySem.W.kdv_tup us0)).push (PySem.HandSPX.excO C hp.objs.size)).get? (hp.objs.size + 1) = some (PySem.HandSPX.excO C hp.objs.size) := by heap_get
  have I2 : Inv X pins σ (upd H (hp.objs.size + 1) (exo (hp.objs.size + 1) C none)) ⟨(hp.push (PySem.W.kdv_tup us0)).push (PySem.HandSPX.excO C hp.objs.size), g, dr, tk, os⟩ :=
    I.laid (t' := tk) (a := hp.objs.size + 1) (o := exo (hp.objs.size + 1) C none) (fun b o e => Heap.get?_push_of_some _ (Heap.get?_push_of_some _ e)) (Nat.le_succ _) (exo_ok at_)
  refine wpAny_call (call_makes PySem.F.excBase_ValueError (fun Y => PySem.HandSPX.refsVE_contains Y bm hbm) (I.kIn _ _ hC) (PySem.W.looks_findIn I.kIn iC) (fun self => PySem.W.bind_fn I.kIn self tI) few ?_)
  refine codeAny_mono (F.go _ X.stack _ _ ⟨Value.ref (hp.objs.size + 1) :: us0, kw⟩ [Value.ref (hp.objs.size + 1), u] [V.ref (hp.objs.size + 1), y] (fun v H2 => v = .non ∧ Q (.ref (hp.objs.size + 1)) H2) (fun _ _ _ => False) gd (hr.make C us0 kw) (I2.env0.make C us0 kw) (hb _ _ I2.kIn) (.cons rfl (.cons ry .nil)) ?_) ?_
  · refine ⟨_, C, y, rfl, T.oex, T.no, upd_same, fun d hd nd => ⟨rfl, ?_⟩⟩
    have hd0 : H d = none := by
      rw [upd_ne nd] at hd
      exact hd
    refine h _ d _ gone hd0 nd (fun b o e => ?_) upd_same ?_
    · rw [upd_ne (ne_of_none e gone), upd_ne (ne_of_none e hd0), upd_ne (ne_of_none e gone)]
      exact e
    · rw [upd_ne nd, upd_same]
  · intro r s' after
    cases r with
    | error e => exact hx pins σ _ _ e s' I2 after
    | ok fl =>
      cases fl with
      | ret v =>
        obtain ⟨x, H2, J, rv, ev, q2⟩ := I2.after after
        subst ev
        exact ⟨rv, ⟨.ref (hp.objs.size + 1), H2, J, rfl, q2⟩⟩
      | next => exact False.elim after
      | brk => exact False.elim after
      | cont => exact False.elim after
/-- C(value) -/
def tX1 (C : Addr) (t : TA) : TE := fun σ H Q => t σ H fun vs H1 => ∃ y, vs = [y] ∧ Made H1 C y Q
/-- C(), C(value=value): the value is y of what is handed -/
def tX0 (C : Addr) (y : V) : TE := fun _ H Q => Made H C y Q
section
variable {x : Str} {p pos : Pos} {e : Expr} {es : List Expr} {kws : List Keyword} {t tk : TA} {ks : List Str}
theorem pe_x1 {g : List Value → List Value → List Value} {gV : List V → List V → List V} (T : XcF X.K C) (iC : PySem.W.findIn X.K (.ref C) "__init__" = some (some (.ref fI))) (tI : PySem.W.typeIn X.K (.ref fI) = some (.type "function"))
    (F : FnG X.prog X.w X.K X.mg X.base CX k fI fd ["self", "value"] (spInit X.K)) (gd : Gd X.A) (hr : Room (k + 1) X.A) (hx : Passes CX X (fun _ _ _ => False)) (hg : Gl X x) (hm : X.mg x = some (.ref C))
    (hb : ∀ (s : Shared) (e u : Value), X.K.In s.heap → BindsTo s fd ⟨[e, u], []⟩ ((["self", "value"] : List Str).zip [e, u])) (ha : PA X (e :: es) t)
    (hdb : (x == ("__debug__" : Str)) = false := by decide) (he : starEach (e :: es) X.env = (false, eval e X.env) :: starEach es X.env := by rfl) (hpl : (backTo pos (starEach es X.env)).any (·.1) = false := by rfl) :
    PE X (.Call (.Name x p) (e :: es) [] pos) (tX1 C t) := by
  constructor
  intro pins s σ H Q I h
  apply wpAny_Call_Name_kw
  refine ld_glob I hg hm (PySem.W.callWith_K (h₀ := X.base) I.ok.mod.kin T.oex.kC (thn (ha.run pos pins s σ H _ I h) ?_) he hpl) hdb
  rintro us s1 ⟨vs, H1, I1, r, y, rfl, made⟩
  obtain ⟨u, rfl, ru⟩ := vals1 r
  exact ⟨I1.kIn, run_made T iC tI F gd hr hx I1 (fun s e hK => hb s e u hK) ru (by show 1 ≤ sizeLine; rw [sizeLine_eq]; decide) made⟩
theorem pe_x0 (T : XcF X.K C) (iC : PySem.W.findIn X.K (.ref C) "__init__" = some (some (.ref fI))) (tI : PySem.W.typeIn X.K (.ref fI) = some (.type "function"))
    (F : FnG X.prog X.w X.K X.mg X.base CX k fI fd ["self", "value"] (spInit X.K)) (gd : Gd X.A) (hr : Room (k + 1) X.A) (hx : Passes CX X (fun _ _ _ => False)) (hg : Gl X x) (hm : X.mg x = some (.ref C))
    (hb : ∀ (s : Shared) (e : Value), X.K.In s.heap → BindsTo s fd ⟨[e], []⟩ ((["self", "value"] : List Str).zip [e, .none])) (hall : (backToKw pos (keywordEach [] X.env)).all (·.1.isSome) = true := by rfl)
    (hdb : (x == ("__debug__" : Str)) = false := by decide) (hpl : ((backTo pos (starEach [] X.env)).any (·.1) || (backToKw pos (keywordEach [] X.env)).any (·.1.isNone)) = false := by rfl) :
    PE X (.Call (.Name x p) [] [] pos) (tX0 C .non) := by
  constructor
  intro pins s σ H Q I h
  apply wpAny_Call_Name_kw
  refine ld_glob I hg hm (PySem.W.callWith_KW0 (h₀ := X.base) I.ok.mod.kin T.oex.kC hall (thn (pk_nil.run pos pins s σ H (fun vs H1 => vs = [] ∧ H1 = H) I ⟨rfl, rfl⟩) ?_) hpl) hdb
  rintro ws s1 ⟨zs, H1, I1, rz, rfl, rfl⟩
  cases rz
  exact ⟨I1.kIn, run_made T iC tI F gd hr hx I1 (u := .none) (y := .non) (us0 := []) (kw := []) (fun s e hK => hb s e hK) rfl (Nat.zero_le _) h⟩
/-- C(value=..) -/
theorem pe_xk (T : XcF X.K C) (iC : PySem.W.findIn X.K (.ref C) "__init__" = some (some (.ref fI))) (tI : PySem.W.typeIn X.K (.ref fI) = some (.type "function"))
    (F : FnG X.prog X.w X.K X.mg X.base CX k fI fd ["self", "value"] (spInit X.K)) (gd : Gd X.A) (hr : Room (k + 1) X.A) (hx : Passes CX X (fun _ _ _ => False)) (hg : Gl X x) (hm : X.mg x = some (.ref C))
    (hb : ∀ (s : Shared) (e u : Value), X.K.In s.heap → BindsTo s fd ⟨[e], [("value", u)]⟩ ((["self", "value"] : List Str).zip [e, u])) (hkw : PK X kws tk) (hall : (backToKw pos (keywordEach kws X.env)).all (·.1.isSome) = true := by rfl)
    (hks : (backToKw pos (keywordEach kws X.env)).filterMap (·.1) = (["value"] : List Str) := by rfl)
    (hdb : (x == ("__debug__" : Str)) = false := by decide) (hpl : ((backTo pos (starEach [] X.env)).any (·.1) || (backToKw pos (keywordEach kws X.env)).any (·.1.isNone)) = false := by rfl) :
    PE X (.Call (.Name x p) [] kws pos) (tX1 C tk) := by
  constructor
  intro pins s σ H Q I h
  apply wpAny_Call_Name_kw
  refine ld_glob I hg hm (PySem.W.callWith_KW0 (h₀ := X.base) I.ok.mod.kin T.oex.kC hall (thn (hkw.run pos pins s σ H _ I h) ?_) hpl) hdb
  rintro ws s1 ⟨zs, H1, I1, rz, y, rfl, made⟩
  obtain ⟨u, rfl, ru⟩ := vals1 rz
  rw [hks]
  exact ⟨I1.kIn, run_made T iC tI F gd hr hx I1 (us0 := []) (kw := [("value", u)]) (fun s e hK => hb s e u hK) ru (Nat.zero_le _) made⟩
/-- C() of a class without own __init__ -/
theorem pe_x00 {bmB : List Value} (T : XcF X.K C) (q : PySem.W.excIn X.K C He.veBase "ValueError.__new__" = true) (hg : Gl X x) (hm : X.mg x = some (.ref C)) (hall : (backToKw pos (keywordEach [] X.env)).all (·.1.isSome) = true := by rfl)
    (hdb : (x == ("__debug__" : Str)) = false := by decide) (hpl : ((backTo pos (starEach [] X.env)).any (·.1) || (backToKw pos (keywordEach [] X.env)).any (·.1.isNone)) = false := by rfl) :
    PE X (.Call (.Name x p) [] [] pos) (fun _ H Q => ∀ a, H a = none → Q (.ref a) (upd H a (exo a C none))) := by
  constructor
  intro pins s σ H Q I h
  apply wpAny_Call_Name_kw
  refine ld_glob I hg hm (PySem.W.callWith_KW0 (h₀ := X.base) I.ok.mod.kin T.oex.kC hall (thn (pk_nil.run pos pins s σ H (fun vs H1 => vs = [] ∧ H1 = H) I ⟨rfl, rfl⟩) ?_) hpl) hdb
  rintro ws s1 ⟨zs, H1, I1, rz, rfl, rfl⟩
  cases rz
  refine ⟨I1.kIn, ?_⟩
  show wpAny _ _ (call (.ref C) []) _ _ _
  obtain ⟨bm, N, nm, qn, bs, hdct, sn, sub, ab, col, dd, k0, k1, k2, k3, k5, mN, hC, hN, hni, OT⟩ := exc_obj I1.kIn q
  refine wpAny_call_exc_subT PySem.F.excBase_ValueError OT hC hN hni (fun h' a hm => ?_) (Nat.zero_le _)
  have gone : H1 a = none := I1.hok.gone hm.new
  obtain ⟨t, at_, _, _⟩ := hm.there
  exact ⟨.ref a, upd H1 a (exo a C none), I1.laidN hm.keeps hm.new gone (exo_ok at_), rfl, h a gone⟩
end
end
end Hw

namespace Hw
open PySem PySem.Spec PyProof.Rows L2
section
variable {K : PySem.W.Frag} {x qual : Str} {params : Arguments} {body : List Stmt} {scope : Scope} {f : Addr} {fd : FuncData}
/-- what is bound by the three ways to call such an __init__ -/
structure IniB (K : PySem.W.Frag) (fd : FuncData) : Prop where
  b2 : ∀ (s : Shared) (e u : Value), K.In s.heap → BindsTo s fd ⟨[e, u], []⟩ ((["self", "value"] : List Str).zip [e, u])
  b1 : ∀ (s : Shared) (e : Value), K.In s.heap → BindsTo s fd ⟨[e], []⟩ ((["self", "value"] : List Str).zip [e, .none])
  bk : ∀ (s : Shared) (e u : Value), K.In s.heap → BindsTo s fd ⟨[e], [("value", u)]⟩ ((["self", "value"] : List Str).zip [e, u])
theorem iniB_of (F : FunD K x qual params body scope [.non] [] f fd)
    (h2 : ∀ (T : Addr) (kV doc pm : Value) (an : Option Addr) (cdv ct : Value) (e u n : Value), ∃ k, bindArgs (PySem.W.fnOf x qual params body scope (.ref T) kV doc pm an cdv ct) ⟨[e, u], []⟩ = seqItems? (.ref T) >>= k ∧ k (some #[n]) = pure ((["self", "value"] : List Str).zip [e, u]))
    (h1 : ∀ (T : Addr) (kV doc pm : Value) (an : Option Addr) (cdv ct : Value) (e n : Value), ∃ k, bindArgs (PySem.W.fnOf x qual params body scope (.ref T) kV doc pm an cdv ct) ⟨[e], []⟩ = seqItems? (.ref T) >>= k ∧ k (some #[n]) = pure ((["self", "value"] : List Str).zip [e, n]))
    (hk : ∀ (T : Addr) (kV doc pm : Value) (an : Option Addr) (cdv ct : Value) (e u n : Value), ∃ k, bindArgs (PySem.W.fnOf x qual params body scope (.ref T) kV doc pm an cdv ct) ⟨[e], [("value", u)]⟩ = seqItems? (.ref T) >>= k ∧ k (some #[n]) = pure ((["self", "value"] : List Str).zip [e, u])) : IniB K fd := by
  refine ⟨?_, ?_, ?_⟩
  · obtain ⟨its, B⟩ := F.kbindsD 2 [] (fun us _ _ => us) (by decide) (fun r _ _ => r) fun T kV doc pm an cdv ct us its ws l1 l2 l3 => match us, its, ws, l1, l2, l3 with | [e, u], [n], [], _, _, _ => h2 T kV doc pm an cdv ct e u n
    exact fun s e u hK => B.to s [e, u] [] hK rfl rfl
  · obtain ⟨its, B⟩ := F.kbindsD 1 [] (fun us its _ => us ++ its) (by decide) (fun r r' _ => r.append r') fun T kV doc pm an cdv ct us its ws l1 l2 l3 => match us, its, ws, l1, l2, l3 with | [e], [n], [], _, _, _ => h1 T kV doc pm an cdv ct e n
    intro s e hK
    have b := B.to s [e] [] hK rfl rfl
    have r := B.rel (vs := [.non]) (us := [.none]) (zs := []) (ws := []) (.cons rfl .nil) .nil
    have e1 : its = [.none] := by
      cases r with
      | cons _ r =>
        cases r with
        | cons a r =>
          cases r
          cases (show _ = Value.none from a)
          rfl
    rw [e1] at b
    exact b
  · obtain ⟨its, B⟩ := F.kbindsD 1 ["value"] (fun us _ ws => us ++ ws) (by decide) (fun r _ r' => r.append r') fun T kV doc pm an cdv ct us its ws l1 l2 l3 => match us, its, ws, l1, l2, l3 with | [e], [n], [u], _, _, _ => hk T kV doc pm an cdv ct e u n
    exact fun s e u hK => B.to s [e] [u] hK rfl rfl
end
end Hw

set_option Elab.async false
set_option linter.all false
set_option maxRecDepth 100000
set_option maxHeartbeats 4000000
namespace Hw
open PySem PySem.Spec PyProof.Rows L2
section
variable {X : Cx}
/-- x == y of data, or of a dict of one int with itself -/
def rEqS : R2 := fun x y H Q => rEqT x y H Q ∨ ∃ (a : Addr) (k : Str) (i : Int), x = .ref a ∧ y = .ref a ∧ H a = some (.dK [(.inr k, .int i)]) ∧ Q (.bl true) H
theorem op_eqS (hu : X.A.units + 64 < cLine) : OpR X (compareOp .Eq) rEqS := by
  intro pins s σ H x y v u Q I rx ry h
  rcases h with h | ⟨a, k, i, rfl, rfl, e, q⟩
  · exact op_eqT hu pins s σ H x y v u Q I rx ry h
  · cases (show v = Value.ref a from rx)
    cases (show u = Value.ref a from ry)
    obtain ⟨_, ns, vs, kv, dd⟩ := dk_of I.hok e
    cases kv with
    | @cons _ q1 _ _ h1 h2 =>
    cases h2
    obtain ⟨kk, vv⟩ := q1
    obtain ⟨e1, e2⟩ := h1
    obtain ⟨t, ht⟩ := e2
    have ht : vv = Value.int i t := ht
    subst ht
    refine PySem.W.keq_eq (r := true) ns ns dd dd (by omega) (fun _ => ?_) ?_
    · have hit := PySem.W.KeqHits.hit (A := X.A.in1) (s := s) (kb := [(kk, Value.int i t)]) (k := kk) (v := Value.int i t) (y := Value.int i t) (r := []) (by unfold valueAt; simp) (SeqAt.EqAt.int_int i t i t) .nil
      rw [show ((i == i) && true) = true by simp] at hit
      exact hit
    · exact ⟨.bl true, H, I, rfl, q⟩
/-- a short text n times -/
def rMulS : R2 := fun x y H Q => ∃ (z : Str) (n : Int), x = .str z ∧ y = .int n ∧ 0 ≤ n ∧ n ≤ 100 ∧ z.length ≤ 100 ∧ Q (.str (Txt.mul z n)) H
theorem op_mulS : OpR X (binaryOp .Mult) rMulS := by
  intro pins s σ H x y v u Q I rx ry h
  obtain ⟨z, n, rfl, rfl, n0, n1, hz, q⟩ := h
  obtain ⟨t, rfl⟩ := rx
  obtain ⟨t2, rfl⟩ := ry
  refine SB.mul ⟨?_, fun h1 _ => ?_, fun h1 _ => ?_⟩ fun t' k => ⟨.str _, H, I.tok _, ⟨_, rfl⟩, q⟩
  · simp only [Bool.or_eq_false_iff, decide_eq_false_iff_not]
    exact ⟨by omega, by omega⟩
  · have h2 : (100 : Int) ≤ (2 ^ 63 - 1) / n := Int.le_ediv_of_mul_le (by omega) (by omega)
    omega
  · have h2 : z.length * n.toNat ≤ 100 * 100 := Nat.mul_le_mul hz (by omega)
    show decide (z.length * n.toNat > sizeLine) = false
    rw [sizeLine_eq]
    exact decide_eq_false (by omega)
/-! ### lists of exceptions that were made -/
/-- x is an exception of the class at C that keeps y -/
def MX (y : V) (C : Addr) (x : V) (H : Hp) : Prop := ∃ a d, x = .ref a ∧ H a = some (exo a C (some d)) ∧ H d = some (exd d [("value", y)])
inductive MXs (y : V) (H : Hp) : List Addr → List V → Prop
  | nil : MXs y H [] []
  | cons {C : Addr} {Cs : List Addr} {x : V} {xs : List V} : MX y C x H → MXs y H Cs xs → MXs y H (C :: Cs) (x :: xs)
def ML (y : V) (Cs : List Addr) : Fi := fun x H => ∃ p xs, x = .ref p ∧ H p = some (.lst xs) ∧ MXs y H Cs xs
theorem MX.to {y : V} {C : Addr} {x : V} {H H' : Hp} (m : MX y C x H) (e : Same H H') : MX y C x H' := by
  obtain ⟨a, d, rfl, h1, h2⟩ := m
  exact ⟨a, d, rfl, e _ _ h1, e _ _ h2⟩
theorem MXs.to {y : V} {H H' : Hp} : ∀ {Cs : List Addr} {xs : List V}, MXs y H Cs xs → Same H H' → MXs y H' Cs xs
  | _, _, .nil, _ => .nil
  | _, _, .cons m r, e => .cons (m.to e) (r.to e)
theorem MXs.app {y : V} {H : Hp} : ∀ {Cs Ds : List Addr} {xs ys : List V}, MXs y H Cs xs → MXs y H Ds ys → MXs y H (Cs ++ Ds) (xs ++ ys)
  | _, _, _, _, .nil, k => k
  | _, _, _, _, .cons m r, k => .cons m (r.app k)
theorem MXs.len {y : V} {H : Hp} : ∀ {Cs : List Addr} {xs : List V}, MXs y H Cs xs → xs.length = Cs.length
  | _, _, .nil => rfl
  | _, _, .cons _ r => by rw [List.length_cons, List.length_cons, r.len]
theorem MXs.get {y : V} {H : Hp} : ∀ {Cs : List Addr} {xs : List V}, MXs y H Cs xs → ∀ (i : Nat) (x : V), xs[i]? = some x → ∃ C, Cs[i]? = some C ∧ MX y C x H
  | _, _, .nil, i, x, h => by simp at h
  | _, _, .cons m r, 0, x, h => by
    have e := Option.some.inj (show some _ = some x from h)
    subst e
    exact ⟨_, rfl, m⟩
  | _, _, .cons _ r, i + 1, x, h => r.get i x h
section
variable {y : V} {C : Addr} {Cs Ds : List Addr} {σ : L2.St} {te tf : TE} {ta : TA} {i : Nat}
theorem Ev.mx1 (h : σ[i]? = some (some y)) : Ev Tr (MX y C) (tX1 C (tCons (tVar i) tNil)) σ := fun H Q _ q => ⟨y, h, y, rfl, fun a d H' _ _ _ e h1 h2 => q _ H' e ⟨a, d, rfl, h1, h2⟩⟩
theorem Ev.mx0 : Ev Tr (MX y C) (tX0 C y) σ := fun H Q _ q => fun a d H' _ _ _ e h1 h2 => q _ H' e ⟨a, d, rfl, h1, h2⟩
theorem Eva.mnil : Eva Tr (fun xs H => MXs y H [] xs) tNil σ := fun H Q _ q => q _ H (Same.refl H) .nil
theorem Eva.mcons (h : Ev Tr (MX y C) te σ) (r : Eva Tr (fun xs H => MXs y H Cs xs) ta σ) : Eva Tr (fun xs H => MXs y H (C :: Cs) xs) (tCons te ta) σ := fun H Q s q =>
  h H _ s fun x H1 e1 p1 => r H1 _ s fun xs H2 e2 p2 => q _ H2 (e1.trans e2) (.cons (p1.to e2) p2)
theorem Ev.mlst (h : Eva Tr (fun xs H => MXs y H Cs xs) ta σ) (hn : Cs.length ≤ 1000) : Ev Tr (ML y Cs) (tLst ta) σ := fun H Q s q => h H _ s fun xs H1 e1 p1 => by
  have p1 : MXs y H1 Cs xs := p1
  refine ⟨by rw [p1.len, sizeLine_eq]; omega, fun p hp => ?_⟩
  have e2 := same_new' (o := .lst xs) hp
  exact q _ _ (e1.trans e2) ⟨p, xs, rfl, upd_same, p1.to e2⟩
theorem ML.to {x : V} {H H' : Hp} (m : ML y Cs x H) (e : Same H H') : ML y Cs x H' := by
  obtain ⟨p, xs, rfl, h1, h2⟩ := m
  exact ⟨p, xs, rfl, e _ _ h1, h2.to e⟩
theorem Ev.mvar {H0 : Hp} {S : Hp → Prop} {x : V} (h : σ[i]? = some (some x)) (m : ∀ H, S H → ML y Cs x H) : Ev S (ML y Cs) (tVar i) σ := fun H Q s q => ⟨x, h, q x H (Same.refl H) (m H s)⟩
/-- found + [..] -/
theorem mcat {x : V} {H : Hp} {Q : VK} (m : ML y Cs x H) (hx : σ[i]? = some (some x)) (h : Ev Tr (ML y Ds) te σ) (hn : Cs.length + Ds.length ≤ 1000) (q : ∀ x H', Same H H' → ML y (Cs ++ Ds) x H' → Q x H') : tOp rCat (tVar i) te σ H Q := by
  refine ⟨x, hx, h H _ trivial fun z H1 e1 mz => ?_⟩
  obtain ⟨p, xs, rfl, h1, h2⟩ := m.to e1
  obtain ⟨p', ys, rfl, k1, k2⟩ := mz
  have l1 := h2.len
  have l2 := k2.len
  refine ⟨p, p', xs, ys, rfl, rfl, h1, k1, by rw [sizeLine_eq]; omega, fun r hr => ?_⟩
  have e2 := same_new' (o := .lst (xs ++ ys)) hr
  exact q _ _ (e1.trans e2) ⟨r, _, rfl, upd_same, (h2.app k2).to e2⟩
end
end
end Hw

/-! ### the head's facts with a further check -/
namespace Hw
open PySem PySem.Spec PyProof.Rows L2
def obsX (fa : List He.Fa) (fn : List He.DefD) (chk : PySem.W.Frag → Bool) (K : PySem.W.Frag) : He.AlD := ((He.obsD fa fn K).1 && chk K, (He.obsD fa fn K).2)
def SaysX (fa : List He.Fa) (fn : List He.DefD) (chk : PySem.W.Frag → Bool) (K : PySem.W.Frag) : Prop := obsX fa fn chk K = He.valD fn
def obsXG (n : Nat) (fa : List He.Fa) (fn : List He.DefD) (chk : PySem.W.Frag → Bool) (g : Addr → Option Obj) : He.AlD := obsX fa fn chk (He.frG g (He.asD g n))
def hookX (n : Nat) (fa : List He.Fa) (fn : List He.DefD) (chk : PySem.W.Frag → Bool) : PySem.W.Hook where
  α := He.AlD
  obs := fun s => obsXG n fa fn chk s.heap.get?
  val := fun _ => He.valD fn
  says := fun _ h => ∃ K : PySem.W.Frag, K.In h ∧ SaysX fa fn chk K
  of := fun _ _ e => ⟨_, He.frG_in, e⟩
  keeps := fun _ _ _ ⟨K, hK, c⟩ k => ⟨K, PySem.W.Frag.In.keeps hK k, c⟩
theorem obsXG_eq {n : Nat} {fa : List He.Fa} {fn : List He.DefD} {chk : PySem.W.Frag → Bool} {g : Addr → Option Obj} {s : Shared} (h : ∀ a, g a = s.heap.get? a) : obsXG n fa fn chk g = (hookX n fa fn chk).obs s := by
  rw [show g = s.heap.get? from funext h]
  rfl
theorem SaysX.says {fa : List He.Fa} {fn : List He.DefD} {chk : PySem.W.Frag → Bool} {K : PySem.W.Frag} (h : SaysX fa fn chk K) : He.SaysD fa fn K ∧ chk K = true := by
  have e1 : ((He.obsD fa fn K).1 && chk K) = true := congrArg Prod.fst (show obsX fa fn chk K = He.valD fn from h)
  have e2 : (obsX fa fn chk K).2 = (He.valD fn).2 := congrArg Prod.snd (show obsX fa fn chk K = He.valD fn from h)
  obtain ⟨a, b⟩ := Bool.and_eq_true_iff.mp e1
  exact ⟨Prod.ext a e2, b⟩
end Hw

set_option Elab.async false
set_option linter.all false
set_option maxRecDepth 100000
set_option maxHeartbeats 4000000
/-! a law whose defs make lambdas: the maker's table of code objects is tracked from the law's call on -/
namespace Hw
open PySem PySem.Spec PyProof.Rows L2 LamX
section
variable {P : Program} {w : World} {K : PySem.W.Frag} {mg mb : Str → Option Value} {CX : CXT} {k : Nat} {fa a c t : Addr} {fd : FuncData} {x : Str} {sp : Sp} {st : Shared} {its : List Value} {ns : List Int}
abbrev tabO : Obj := { cls := .none, data := .fields #[] }
/-- the call over an abstract heap that tracks the table at t and (perhaps) the script -/
theorem lawT_at {H : Hp} (inK : K.In st.heap) (globals : st.heap.Ns mainGlobals mg) (blt : st.heap.Ns builtinsNs mb) (bltIs : ∀ x : Str, x ≠ "__name__" → mb x = bootBuiltins x) (noLim : st.heap.NoLimit) (noGen : st.gens = #[])
    (tab : st.heap.get? t = some tabO) (noT : K.lookup t = none) (hd : PySem.W.CodeHd st.heap c t) (main_ : ∃ (bm : Addr) (ob : Obj), mg "__builtins__" = some (.ref bm) ∧ bm ≠ builtinsNs ∧ st.heap.get? bm = some ob ∧ ob.cls = .type "module" ∧ ob.dict = some builtinsNs ∧ ob.data = .plain)
    (lst : st.heap.get? a = some { cls := .type "list", data := .seq its.toArray }) (room : Room k callerA)
    (F : ∀ base : Heap, K.In base → base.Ns mainGlobals mg → TabB base mg c t → FnG P w K mg base CX k fa fd [x] sp) (binds : ∀ (s : Shared) (u : Value), BindsTo s fd ⟨[u], []⟩ [(x, u)])
    (want : sp [.ref a] H (fun v _ => v = .bl true) fun _ _ _ => False) (noEx : ∀ e s', CX [] H st (fun _ _ _ => False) e s' → False)
    (only : ∀ b, H b = none ∨ b = t ∨ ∃ o xs, H b = some (.frz o (.lst xs))) (atT : H t = some (.tbl #[])) (held : HOk P w H st.heap) (atA : ∀ b, H b ≠ none → b = a ∨ b = t) (notK : H a ≠ none → K.lookup a = none) :
    codeAny (model P w) callerA (.call (.ref fa) ⟨[.ref a], []⟩) (fun r s' => r = .ok (.ret (.bool true)) ∧ OldK st.heap s'.heap ∧ s'.os = st.os ∧ AllBare s'.gens) st := by
  -- what is neither a list nor such a table is not tracked
  have loose : ∀ {b : Addr} {o : Obj}, st.heap.get? b = some o → (∀ vs n, o.data ≠ .seq vs n) → o.data ≠ .fields #[] → H b = none := by
    intro b o q n1 n2
    cases z : H b with
    | none => rfl
    | some u =>
      rcases atA b (by rw [z]; exact Option.some_ne_none u) with e | e
      · rw [e, lst] at q
        exact absurd (by rw [← Option.some.inj q]) (n1 its.toArray 0)
      · rw [e, tab] at q
        exact absurd (by rw [← Option.some.inj q]) n2
  have dicts : ∀ {b : Addr} {m : Str → Option Value}, st.heap.Ns b m → (hidT st.heap H).Ns b m := by
    rintro b m ⟨o, es, ep, q, d, rest⟩
    exact ⟨o, es, ep, hidT_get q (loose q (fun vs n z => by rw [d] at z; cases z) (fun z => by rw [d] at z; cases z)), d, rest⟩
  have baseK : K.In (hidT st.heap H) := by
    intro b o q
    refine hidT_get (inK b o q) ?_
    cases z : H b with
    | none => rfl
    | some u =>
      have ne : H b ≠ none := by rw [z]; exact Option.some_ne_none u
      rcases atA b ne with eb | eb
      · subst eb
        rw [notK ne] at q
        exact nomatch q
      · subst eb
        rw [noT] at q
        exact nomatch q
  have gT : mainGlobals ≠ t := fun e => by
    obtain ⟨o, es, ep, q, d, _⟩ := globals
    rw [e, tab] at q
    rw [← Option.some.inj q] at d
    exact nomatch (show Data.fields #[] = Data.dict es ep from d)
  have TB : TabB (hidT st.heap H) mg c t := by
    refine ⟨?_, ?_, gT⟩
    · obtain ⟨o, us, file, tf, flags, tg, inF, text, tt, e1, r1, r2, r3, rest⟩ := hd
      refine ⟨o, us, file, tf, flags, tg, inF, text, tt, hidT_get e1 (loose e1 (fun vs n z => by rw [r2] at z; cases z) fun z => ?_), r1, r2, r3, rest⟩
      rw [r2] at z
      have z2 : us = #[] := by injection z
      rw [z2] at r3
      simp at r3
    · obtain ⟨bm, ob, b1, b2, b3, b4, b5, b6⟩ := main_
      refine ⟨bm, ob, b1, b2, fun e => ?_, fun e => ?_, hidT_get b3 (loose b3 (fun vs n z => by rw [b6] at z; cases z) fun z => by rw [b6] at z; cases z), b4, b5, b6⟩
      · obtain ⟨o, es, ep, q, d, _⟩ := globals
        rw [e, q] at b3
        rw [← Option.some.inj b3, d] at b6
        cases b6
      · rw [e, tab] at b3
        rw [← Option.some.inj b3] at b6
        cases b6
  obtain ⟨mc, l1, l2⟩ := noLim
  have env : Env0 P w K mg (hidT st.heap H) callerA [] st H :=
    { frames := rfl, mod := { kin := baseK, glob := dicts globals, blt := ⟨mb, dicts blt, bltIs⟩, nolimit := ⟨mc, dicts l1, l2⟩ }, bs := fun b o q => of_hidT q,
      bsz := Nat.le_of_eq (hidT_size _ _), funs := trivial, frf := fun b z => (nomatch z), hok := held, bare := .of_eq noGen }
  refine codeAny_mono ((F _ baseK (dicts globals) TB).go callerA [] st H ⟨[.ref a], []⟩ [.ref a] [.ref a] _ _ rfl room env (binds st (.ref a)) (.cons rfl .nil) want) ?_
  intro r s' q
  match r, q with
  | .error e, q => exact (noEx e s' q).elim
  | .ok .next, q => exact (show False from q).elim
  | .ok .brk, q => exact (show False from q).elim
  | .ok .cont, q => exact (show False from q).elim
  | .ok (.ret u), ⟨v, H', eos, bare, un, held', rv, ev⟩ =>
    have ev' : v = .bl true := ev
    subst ev'
    cases (show u = Value.bool true from rv)
    obtain ⟨more, grown⟩ := un.tbls t #[] atT
    have tab' : s'.heap.get? t = some { cls := .none, data := .fields (#[] ++ more) } := held' t _ grown
    have keep : ∀ b o, b ≠ t → st.heap.get? b = some o → s'.heap.get? b = some o := by
      intro b o nb q
      cases z : H b with
      | none => exact un.keep b o q z (fun y => nomatch y) (fun y => nomatch y)
      | some u =>
        rcases only b with y | y | ⟨ob, xs, y⟩
        · rw [z] at y
          exact nomatch y
        · exact absurd y nb
        · have q1 := (held b _ y).1
          have q2 := (held' b _ (un.frzs b ob _ y)).1
          rw [q] at q1
          rw [Option.some.inj q1]
          exact q2
    refine ⟨rfl, ⟨fun b o q => ?_, fun b o q => ?_⟩, eos, bare⟩
    · by_cases e : b = t
      · subst e
        rw [tab] at q
        have q := Option.some.inj q
        subst q
        exact .inr (.inl ⟨(hd.tab tab).isCodeTable, rfl, #[], more, rfl, tab'⟩)
      · exact .inl (keep b o e q)
    · by_cases e : b = t
      · subst e
        exact ⟨_, tab'⟩
      · exact ⟨o, keep b o e q⟩
end
end Hw
namespace Hw
open PySem PySem.Spec PyProof.Rows L2 LamX
section
variable {P : Program} {w : World} {K : PySem.W.Frag} {mg mb : Str → Option Value} {CX : CXT} {k : Nat} {fa a c t : Addr} {fd : FuncData} {x : Str} {sp : Sp} {st : Shared} {its : List Value} {ns : List Int}
theorem lawT (inK : K.In st.heap) (globals : st.heap.Ns mainGlobals mg) (blt : st.heap.Ns builtinsNs mb) (bltIs : ∀ x : Str, x ≠ "__name__" → mb x = bootBuiltins x) (noLim : st.heap.NoLimit) (noGen : st.gens = #[])
    (tab : st.heap.get? t = some tabO) (noT : K.lookup t = none) (hd : PySem.W.CodeHd st.heap c t) (main_ : ∃ (bm : Addr) (ob : Obj), mg "__builtins__" = some (.ref bm) ∧ bm ≠ builtinsNs ∧ st.heap.get? bm = some ob ∧ ob.cls = .type "module" ∧ ob.dict = some builtinsNs ∧ ob.data = .plain)
    (lst : st.heap.get? a = some { cls := .type "list", data := .seq its.toArray }) (areInts : IntsAre its ns) (len : ns.length ≤ sizeLine) (room : Room k callerA)
    (F : ∀ base : Heap, K.In base → base.Ns mainGlobals mg → TabB base mg c t → FnG P w K mg base CX k fa fd [x] sp) (binds : ∀ (s : Shared) (u : Value), BindsTo s fd ⟨[u], []⟩ [(x, u)])
    (want : ∀ H : Hp, H t = some (.tbl #[]) → SqL K H a (ns.map V.int) → sp [.ref a] H (fun v _ => v = .bl true) fun _ _ _ => False) (noEx : ∀ H e s', CX [] H st (fun _ _ _ => False) e s' → False) :
    codeAny (model P w) callerA (.call (.ref fa) ⟨[.ref a], []⟩) (fun r s' => r = .ok (.ret (.bool true)) ∧ OldK st.heap s'.heap ∧ s'.os = st.os ∧ AllBare s'.gens) st := by
  have rel := vals_ints areInts
  have nat_ : a ≠ t := fun e => by
    rw [e, tab] at lst
    cases lst
  cases z : K.lookup a with
  | some o =>
    have q := inK a o z
    rw [lst] at q
    have eo := Option.some.inj q
    subst eo
    let H : Hp := upd (fun _ => none) t (.tbl #[])
    have at1 : H t = some (.tbl #[]) := upd_same
    have off : ∀ b, b ≠ t → H b = none := fun b hb => upd_ne hb
    have sq : SqL K H a (ns.map V.int) := Or.inr ⟨_, its.toArray, _, z, rfl, rfl, rfl, by rw [List.size_toArray, areInts.length]; exact len, rel⟩
    refine lawT_at inK globals blt bltIs noLim noGen tab noT hd main_ lst room F binds (want H at1 sq) (noEx _) (fun b => ?_) at1 (fun b u y => ?_) (fun b y => ?_) (fun y => (y (off a nat_)).elim)
    · by_cases e : b = t
      · exact .inr (.inl e)
      · exact .inl (off b e)
    · by_cases e : b = t
      · subst e
        rw [at1] at y
        rw [← Option.some.inj y]
        exact tab
      · rw [off b e] at y
        exact nomatch y
    · by_cases e : b = t
      · exact .inr e
      · exact (y (off b e)).elim
  | none =>
    let H : Hp := upd (upd (fun _ => none) t (.tbl #[])) a (.frz { cls := .type "list", data := .seq its.toArray } (.lst (ns.map V.int)))
    have at0 : H a = some (.frz { cls := .type "list", data := .seq its.toArray } (.lst (ns.map V.int))) := upd_same
    have at1 : H t = some (.tbl #[]) := (upd_ne nat_.symm).trans upd_same
    have off : ∀ b, b ≠ a → b ≠ t → H b = none := fun b h1 h2 => (upd_ne h1).trans (upd_ne h2)
    refine lawT_at inK globals blt bltIs noLim noGen tab noT hd main_ lst room F binds (want H at1 (.inl (.inr ⟨_, at0⟩))) (noEx _) (fun b => ?_) at1 (fun b u y => ?_) (fun b y => ?_) (fun _ => z)
    · by_cases e : b = a
      · subst e
        exact .inr (.inr ⟨_, _, at0⟩)
      · by_cases e2 : b = t
        · exact .inr (.inl e2)
        · exact .inl (off b e e2)
    · by_cases e : b = a
      · subst e
        rw [at0] at y
        rw [← Option.some.inj y]
        exact ⟨lst, by rw [List.length_map]; exact len, its, _, rel, lst⟩
      · by_cases e2 : b = t
        · subst e2
          rw [at1] at y
          rw [← Option.some.inj y]
          exact tab
        · rw [off b e e2] at y
          exact nomatch y
    · by_cases e : b = a
      · exact .inl e
      · by_cases e2 : b = t
        · exact .inr e2
        · exact (y (off b e e2)).elim
end
/-- a law with a table: what the head leaves, from the law's promise -/
theorem walkT {l : PySem.W.OpenLaw} {n k : Nat} {q : Program} {loose : List Str} {XP : (Str → Option Value) → Heap → Prop} {YP : World → Heap → Prop} {d : DefRec} {x : Str}
    (most : l.most = some n) (small : n ≤ sizeLine) (plain : d.params.defaults = []) (room : Room k callerA)
    (F : ∀ (w : World) (mg : Str → Option Value) (fa : Addr) (h : Heap), YP w h → h.Ns mainGlobals mg → mg d.name = some (.ref fa) →
      ∃ (K : PySem.W.Frag) (fd : FuncData) (sp : Sp) (c t : Addr), K.In h ∧ h.get? t = some tabO ∧ K.lookup t = none ∧ PySem.W.CodeHd h c t ∧ (∀ (s : Shared) (u : Value), BindsTo s fd ⟨[u], []⟩ [(x, u)]) ∧
        (∀ (H : Hp) (a : Addr) (ns : List Int), ns.length ≤ n → H t = some (.tbl #[]) → SqL K H a (ns.map V.int) → sp [.ref a] H (fun v _ => v = .bl true) fun _ _ _ => False) ∧
        ∀ base : Heap, K.In base → base.Ns mainGlobals mg → TabB base mg c t → FnG l.prog w K mg base CX0 k fa fd [x] sp) :
    PySem.W.WalkO q loose XP YP l.row.toRowW d [] (fun f vs => PySem.call f vs) := by
  apply Att.attach_callB most plain
  intro w s0 s1 mg mb fa o pm cd doc a vs ns G Y _ _ _ gl lst areInts len bits gens
  obtain ⟨K, fd, sp, c, t, inK, tab, noT, hd, binds, want, run⟩ := F w mg fa _ Y G.T.g gl
  exact lawT inK G.T.g G.T.b G.T.builtins G.T.nolimit gens tab noT hd G.T.bmain lst areInts (Nat.le_trans len small) room run binds (fun H h s => want H a ns len h s) fun _ _ _ y => y.elim
/-! ### the head's facts, a table of code objects among them -/
/-- the code object of the def x, and its table -/
def codeAt (g : Addr → Option Obj) (K : PySem.W.Frag) (x : Str) : Addr := match K.lookup (He.ga K x) with
  | some ⟨_, _, .func fd, _⟩ => (match fd.code with | .ref c => c | _ => 0)
  | _ => 0
def tabAt (g : Addr → Option Obj) (c : Addr) : Addr := match g c with
  | some ⟨_, _, .fields vs, _⟩ => (match (vs[11]? : Option Value) with | some (.ref t) => t | _ => 0)
  | _ => 0
def emptyB (o : Option Obj) : Bool := match o with
  | some ⟨.none, none, .fields vs, sl⟩ => vs.isEmpty && sl.isEmpty
  | _ => false
/-- the part of the heap that is read: all but the table -/
def partT (n : Nat) (x : Str) (g : Addr → Option Obj) : PySem.W.Frag :=
  let as := He.asD g n
  let K := He.frG g as
  He.frG g (as.filter fun b => b != tabAt g (codeAt g K x))
theorem emptyB_ok {o : Option Obj} (h : emptyB o = true) : o = some tabO := by
  unfold emptyB at h
  split at h
  · rename_i vs sl
    obtain ⟨h1, h2⟩ := Bool.and_eq_true_iff.mp h
    have e1 : vs = #[] := by simpa using h1
    have e2 : sl = #[] := by simpa using h2
    subst e1 e2
    rfl
  · cases h
def obsT (n : Nat) (x : Str) (fa : List He.Fa) (fn : List He.DefD) (chk : PySem.W.Frag → Bool) (g : Addr → Option Obj) : He.AlD × Bool :=
  let K := partT n x g
  let c := codeAt g K x
  let t := tabAt g c
  (obsX fa fn chk K, PySem.W.codeHdIn K c t && (emptyB (g t) && (K.lookup t).isNone))
def SaysT (x : Str) (fa : List He.Fa) (fn : List He.DefD) (chk : PySem.W.Frag → Bool) (h : Heap) : Prop :=
  ∃ (K : PySem.W.Frag) (c t : Addr), K.In h ∧ SaysX fa fn chk K ∧ PySem.W.codeHdIn K c t = true ∧ h.get? t = some tabO ∧ K.lookup t = none ∧ codeAt (fun _ => none) K x = c
/-- the code object of a def -/
theorem code_of {K : PySem.W.Frag} {x y : Str} {st : Stmt} {f : Addr} {fd : FuncData} {g : Addr → Option Obj} (F : DefAt K y st f fd) (e : f = He.ga K x) : fd.code = .ref (codeAt g K x) := by
  obtain ⟨oc, od, dV, kV, doc, pm, an, cdv, ct, osl, rfl, look, codeIs, -, -⟩ := F.ex
  unfold codeAt
  rw [← e, look]
  cases cdv with
  | ref c => rfl
  | _ => cases codeIs
def hookT (n : Nat) (x : Str) (fa : List He.Fa) (fn : List He.DefD) (chk : PySem.W.Frag → Bool) : PySem.W.Hook where
  α := He.AlD × Bool
  obs := fun s => obsT n x fa fn chk s.heap.get?
  val := fun _ => (He.valD fn, true)
  says := fun _ h => SaysT x fa fn chk h
  of := fun w s e => by
    have e1 : obsX fa fn chk (partT n x s.heap.get?) = He.valD fn := congrArg Prod.fst e
    have e2 : (PySem.W.codeHdIn (partT n x s.heap.get?) (codeAt s.heap.get? (partT n x s.heap.get?) x) (tabAt s.heap.get? (codeAt s.heap.get? (partT n x s.heap.get?) x)) && (emptyB (s.heap.get? (tabAt s.heap.get? (codeAt s.heap.get? (partT n x s.heap.get?) x))) &&
      ((partT n x s.heap.get?).lookup (tabAt s.heap.get? (codeAt s.heap.get? (partT n x s.heap.get?) x))).isNone)) = true := congrArg Prod.snd e
    obtain ⟨a, b⟩ := Bool.and_eq_true_iff.mp e2
    obtain ⟨b, d⟩ := Bool.and_eq_true_iff.mp b
    exact ⟨_, _, _, He.frG_in, e1, a, emptyB_ok b, Option.isNone_iff_eq_none.mp d, rfl⟩
  keeps := fun _ _ _ ⟨K, c, t, hK, h1, h2, h3, h4, h5⟩ k => ⟨K, c, t, PySem.W.Frag.In.keeps hK k, h1, h2, k _ _ h3, h4, h5⟩
theorem obsT_eq {n : Nat} {x : Str} {fa : List He.Fa} {fn : List He.DefD} {chk : PySem.W.Frag → Bool} {g : Addr → Option Obj} {s : Shared} (h : ∀ a, g a = s.heap.get? a) : obsT n x fa fn chk g = (hookT n x fa fn chk).obs s := by
  rw [show g = s.heap.get? from funext h]
  rfl
end Hw

set_option Elab.async false
set_option linter.all false
set_option maxRecDepth 100000
set_option maxHeartbeats 4000000
/-! things that are known and stay: a lambda handed on, the cells that it reads -/
namespace Hw
open PySem PySem.Spec PyProof.Rows L2 LamX
/-- the object is o, and it stays -/
def FrzO (o : Obj) : HO := .frz o (.ext fun _ => True)
section
variable {P : Program} {w : World} {H H' : Hp} {h h' : Heap} {a : Addr} {o : Obj}
theorem frzO_of (e : h.get? a = some o) : ObjOk P w H h a (FrzO o) := ⟨e, True.intro, ⟨o, e⟩, fun _ _ _ _ => True.intro⟩
theorem frzO_at (x : ObjOk P w H h a (FrzO o)) : h.get? a = some o := x.1
end
/-- known things: objects by their places -/
abbrev Pn := Addr → Option Obj
def putC (H : Hp) (C : Pn) : Hp := fun b => match C b with
  | some o => some (FrzO o)
  | none => H b
def minC (H : Hp) (C : Pn) : Hp := fun b => match C b with
  | some _ => none
  | none => H b
theorem putC_in {H : Hp} {C : Pn} {b : Addr} {o : Obj} (h : C b = some o) : putC H C b = some (FrzO o) := by unfold putC; rw [h]
theorem putC_out {H : Hp} {C : Pn} {b : Addr} (h : C b = none) : putC H C b = H b := by unfold putC; rw [h]
theorem minC_in {H : Hp} {C : Pn} {b : Addr} {o : Obj} (h : C b = some o) : minC H C b = none := by unfold minC; rw [h]
theorem minC_out {H : Hp} {C : Pn} {b : Addr} (h : C b = none) : minC H C b = H b := by unfold minC; rw [h]
theorem minC_at {H : Hp} {C : Pn} {b : Addr} {u : HO} (h : minC H C b = some u) : C b = none ∧ H b = some u := by
  cases z : C b with
  | none => exact ⟨rfl, by rw [minC_out z] at h; exact h⟩
  | some o => rw [minC_in z] at h; cases h
theorem put_off {H : Hp} {C : Pn} {b : Addr} {u : HO} (hC : ∀ b o, C b = some o → H b = none) (h : H b = some u) : C b = none := by
  cases z : C b with
  | none => rfl
  | some o => rw [hC b o z] at h; cases h
theorem putC_same {H : Hp} {C : Pn} (hC : ∀ b o, C b = some o → H b = none) {b : Addr} {u : HO} (h : H b = some u) : putC H C b = some u := by
  rw [putC_out (put_off hC h)]; exact h
/-- what isn't such a thing is not among them -/
theorem min_off {H : Hp} {C : Pn} {b : Addr} {u : HO} (hC : ∀ b o, C b = some o → H b = some (FrzO o)) (h : H b = some u) (n : ∀ o, u ≠ FrzO o) : C b = none := by
  cases z : C b with
  | none => rfl
  | some o =>
    rw [hC b o z] at h
    exact absurd (Option.some.inj h).symm (n o)
theorem minC_same {H : Hp} {C : Pn} {b : Addr} {u : HO} (hC : ∀ b o, C b = some o → H b = some (FrzO o)) (h : H b = some u) (n : ∀ o, u ≠ FrzO o) : minC H C b = some u := by
  rw [minC_out (min_off hC h n)]; exact h
section
variable {P : Program} {w : World} {K : PySem.W.Frag} {mg : Str → Option Value} {base : Heap} {A : Around} {outer : List Env} {s s' : Shared} {H H' : Hp} {C : Pn} {Q : VK} {u : Value} {h h' : Heap}
theorem hok_put (x : HOk P w H h) (hC : ∀ b o, C b = some o → H b = none) (hh : ∀ b o, C b = some o → h.get? b = some o) : HOk P w (putC H C) h := fun b v e => by
  cases z : C b with
  | some o =>
    rw [putC_in z] at e
    cases e
    exact frzO_of (hh b o z)
  | none =>
    rw [putC_out z] at e
    exact (x b v e).stay (fun _ _ _ q => q) (fun d q => putC_same hC q) fun d xs q => putC_same hC q
theorem hok_min (x : HOk P w H h) (hC : ∀ b o, C b = some o → H b = some (FrzO o)) : HOk P w (minC H C) h := fun b v e => by
  obtain ⟨z, e⟩ := minC_at e
  exact (x b v e).stay (fun _ _ _ q => q) (fun d q => minC_same hC q fun o y => by cases y) fun d xs q => minC_same hC q fun o y => by cases y
/-- a state, some untracked things known from now on -/
theorem env0_put (e : Env0 P w K mg base A outer s H) (hC : ∀ b o, C b = some o → s.heap.get? b = some o ∧ H b = none ∧ base.get? b = none ∧ b ∉ frs outer) : Env0 P w K mg base A outer s (putC H C) where
  frames := e.frames
  mod := e.mod
  bs := fun b o q => by
    refine ⟨(e.bs b o q).1, ?_⟩
    cases z : C b with
    | some o' => rw [(hC b o' z).2.2.1] at q; cases q
    | none => rw [putC_out z]; exact (e.bs b o q).2
  bsz := e.bsz
  funs := e.funs
  frf := fun b q => by
    cases z : C b with
    | some o' => exact absurd q (hC b o' z).2.2.2
    | none => rw [putC_out z]; exact e.frf b q
  hok := hok_put e.hok (fun b o z => (hC b o z).2.1) fun b o z => (hC b o z).1
  bare := e.bare
/-- a state, some known things no longer known -/
theorem env0_min (e : Env0 P w K mg base A outer s H) (hC : ∀ b o, C b = some o → H b = some (FrzO o)) : Env0 P w K mg base A outer s (minC H C) where
  frames := e.frames
  mod := e.mod
  bs := fun b o q => by
    refine ⟨(e.bs b o q).1, ?_⟩
    cases z : C b with
    | some o' => exact minC_in z
    | none => rw [minC_out z]; exact (e.bs b o q).2
  bsz := e.bsz
  funs := e.funs
  frf := fun b q => by
    cases z : C b with
    | some o' => exact minC_in z
    | none => rw [minC_out z]; exact e.frf b q
  hok := hok_min e.hok hC
  bare := e.bare
/-- behind a call with more known: known no longer -/
theorem ce_min (hC : ∀ b o, C b = some o → s.heap.get? b = some o ∧ H b = none ∧ base.get? b = none ∧ b ∉ frs outer) (x : CE outer P w (putC H C) s (fun v H' => Q v (minC H' C)) u s') : CE outer P w H s Q u s' := by
  obtain ⟨v, H', os, bare, un, hok, rv, q⟩ := x
  have hN : ∀ b o, C b = some o → H b = none := fun b o z => (hC b o z).2.1
  have kept : ∀ b o, C b = some o → H' b = some (FrzO o) := fun b o z => un.frzs b o _ (putC_in z)
  refine ⟨v, minC H' C, os, bare, ⟨fun b o g n f x => ?_, fun b o g n f x => ?_, fun b o g n x => ?_, un.there, fun b xs q => ?_, fun b o y q => ?_, fun b ps q => ?_⟩, hok_min hok kept, rv, q⟩
  · cases z : C b with
    | some o' =>
      have e1 := (hC b o' z).1
      rw [g] at e1
      cases e1
      exact frzO_at (hok b _ (kept b o z))
    | none => exact un.keep b o g (by rw [putC_out z]; exact n) f x
  · cases z : C b with
    | some o' => exact absurd f (hC b o' z).2.2.2
    | none => exact un.slot b o g (by rw [putC_out z]; exact n) f x
  · cases z : C b with
    | some o' => exact minC_in z
    | none => rw [minC_out z]; exact un.free b o g (by rw [putC_out z]; exact n) x
  · rw [minC_out (put_off hN q)]; exact un.tups b xs (putC_same hN q)
  · rw [minC_out (put_off hN q)]; exact un.frzs b o y (putC_same hN q)
  · rw [minC_out (put_off hN q)]; exact un.tbls b ps (putC_same hN q)
/-- behind a call with less known: known again -/
theorem ce_put (e : Env0 P w K mg base A outer s H) (hC : ∀ b o, C b = some o → H b = some (FrzO o)) (x : CE outer P w (minC H C) s (fun v H' => Q v (putC H' C)) u s') : CE outer P w H s Q u s' := by
  obtain ⟨v, H', os, bare, un, hok, rv, q⟩ := x
  have at_ : ∀ b o, C b = some o → s.heap.get? b = some o := fun b o z => frzO_at (e.hok b _ (hC b o z))
  have nf : ∀ b o, C b = some o → b ∉ frs outer := fun b o z f => by
    have y := e.frf b f
    rw [hC b o z] at y
    cases y
  have none' : ∀ b o, C b = some o → H' b = none := fun b o z => un.free b o (at_ b o z) (minC_in z) (by simp)
  have heap' : ∀ b o, C b = some o → s'.heap.get? b = some o := fun b o z => un.keep b o (at_ b o z) (minC_in z) (nf b o z) (by simp)
  have out : ∀ b, H b = none → C b = none := fun b n => by
    cases z : C b with
    | some o => rw [hC b o z] at n; cases n
    | none => rfl
  refine ⟨v, putC H' C, os, bare, ⟨fun b o g n f x => un.keep b o g (by rw [minC_out (out b n)]; exact n) f x, fun b o g n f x => un.slot b o g (by rw [minC_out (out b n)]; exact n) f x,
    fun b o g n x => by rw [putC_out (out b n)]; exact un.free b o g (by rw [minC_out (out b n)]; exact n) x, un.there, fun b xs q => ?_, fun b o y q => ?_, fun b ps q => ?_⟩, hok_put hok none' heap', rv, q⟩
  · exact putC_same none' (un.tups b xs (minC_same hC q fun o y => by cases y))
  · cases z : C b with
    | some o' =>
      have e1 := hC b o' z
      rw [q] at e1
      rw [putC_in z, ← Option.some.inj e1]
    | none => rw [putC_out z]; exact un.frzs b o y (by rw [minC_out z]; exact q)
  · obtain ⟨more, r⟩ := un.tbls b ps (minC_same hC q fun o y => by cases y)
    exact ⟨more, putC_same none' r⟩
end
end Hw

set_option Elab.async false
set_option linter.all false
set_option maxRecDepth 100000
set_option maxHeartbeats 4000000
namespace Hw
open PySem PySem.Spec PyProof.Rows L2 LamX
/-- a function made of a lambda -/
abbrev lamO (q : Str) (params : Arguments) (body : Expr) (scope : Scope) (cl : List (Str × Addr)) (pm : Value) (c' : Addr) (ctv : Value) : Obj := PySem.W.kla_obj "<lambda>" q params body scope cl pm c' ctv
section
variable {X : Cx} {pins : List (Addr × Obj)} {σ : L2.St} {H : Hp} {s : Shared}
/-- the lambda is made, and known from now on -/
theorem lam_make3 {T : List (Addr × Str)} {c t : Addr} {params : Arguments} {body : Expr} {scope : Scope} {pos : Pos} {E : Value → Shared → Prop} {Q : Value → Shared → Prop}
    (I : Inv X pins σ H s) (B : TabB X.base X.mg c t) (own : X.env.code = .ref c) (listed : (t, X.env.qual ++ "<lambda>") ∈ T) (alone : ∀ p ∈ T, p.1 = t → p.2 = X.env.qual ++ "<lambda>") (told : Tabs T H) (noDef : defaultsOf params X.env = ([], []))
    (free : ∀ y ∈ scope.names, y.2 = .free → ∃ c, X.env.cells.lookup y.1 = some c)
    (go : ∀ (f c' : Addr) (pm ctv : Value) (H1 : Hp) (s' : Shared), Inv X pins σ (upd H1 f (FrzO (lamO (X.env.qual ++ "<lambda>") params body scope (cloFrom X.env.cells scope.names []) pm c' ctv))) s' → ExtN H H1 → Tabs T H1 → H1 f = none →
      H1 c' = some (CodeO c' (X.env.qual ++ "<lambda>")) → Q (.ref f) s') :
    wpAny (model X.prog X.w) X.A (eval (.Lambda params body scope pos) X.env) Q E s := by
  obtain ⟨ps, tabH, trip, each⟩ := told _ listed
  have tab : s.heap.get? t = some { cls := .none, data := .fields ps } := I.hok t _ tabH
  have bm : s.heap.BuiltinsAt X.mg t := B.bm.keeps I.bk
  have glob : s.heap.Ns mainGlobals X.mg := I.mod.glob.keeps I.bk
  have lay : ∀ (c' : Addr) (pm ctv : Value) (H1 : Hp) (h' : Heap) (tk : Nat), Inv X pins σ H1 { s with heap := h', toks := tk } → ExtN H H1 → Tabs T H1 → H1 c' = some (CodeO c' (X.env.qual ++ "<lambda>")) →
      Q (.ref h'.objs.size) { s with heap := h'.push (lamO (X.env.qual ++ "<lambda>") params body scope (cloFrom X.env.cells scope.names []) pm c' ctv), toks := tk } := by
    intro c' pm ctv H1 h' tk J ext tabs code
    refine go h'.objs.size c' pm ctv H1 _ ?_ ext tabs (J.hok.fresh (Nat.le_refl _)) code
    exact J.laid (t' := tk) (fun b u e => Heap.get?_push_of_some _ e) (Nat.le_refl _) (frzO_of (Heap.get?_push_size _ rfl))
  refine PySem.W.kla_eval noDef ?_
  cases found : codeAmong pos ps.toList with
  | some cv =>
    obtain ⟨c', rfl, code⟩ := each pos cv found
    refine PySem.W.kla_makeFunctionHit (mg := X.mg) (c := c) (P := t) (ps := ps) (closure_ok free) I.ok.glob glob own (B.code.keeps I.bk) tab trip found bm ?_
    intro ctv h' tk keep _
    exact lay c' _ ctv H h' tk (I.kept keep) (ExtN.refl H) told code
  | none =>
    refine PySem.W.kla_makeFunction (mg := X.mg) (c := c) (P := t) (ps := ps) (closure_ok free) I.ok.glob glob own (B.code.keeps I.bk) tab trip found B.gP bm ?_
    intro c' ctv h' tk keep new lt rec_ tab'
    obtain ⟨c2, oc, vs, tq, e2, hoc, hd, hv⟩ := rec_
    cases e2
    have fresh : H c' = none := I.hok.fresh new
    have code : upd (upd H t (.tbl (ps ++ #[rawInt pos.line, rawInt pos.col, .ref c']))) c' (CodeO c' (X.env.qual ++ "<lambda>")) c' = some (CodeO c' (X.env.qual ++ "<lambda>")) := upd_same
    have ext : ExtN H (upd (upd H t (.tbl (ps ++ #[rawInt pos.line, rawInt pos.col, .ref c']))) c' (CodeO c' (X.env.qual ++ "<lambda>"))) := by
      intro b o e n
      have nt : b ≠ t := fun z => n ps (by rw [z, tabH] at e; exact (Option.some.inj e).symm)
      rw [upd_ne (ne_of_none e fresh), upd_ne nt]
      exact e
    refine lay c' _ ctv _ h' tk (inv_table I tabH keep tab' new ⟨oc, vs, tq, hoc, hd, hv⟩) ext ?_ code
    intro p hp
    by_cases hb : p.1 = t
    · have split : (ps ++ #[rawInt pos.line, rawInt pos.col, .ref c']).toList = ps.toList ++ [rawInt pos.line, rawInt pos.col, .ref c'] := by simp
      rw [alone p hp hb, hb]
      refine ⟨_, (upd_ne (ne_of_none tabH fresh)).trans upd_same, by rw [split]; exact PySem.TriplesOk_snoc _ _ _ _ trip, ?_⟩
      intro p' cv hcv
      rw [split] at hcv
      rcases among_app _ trip hcv with z | z
      · obtain ⟨c0, e1, e2⟩ := each p' cv z
        exact ⟨c0, e1, ext _ _ e2 codeO_ne⟩
      · exact ⟨c', z, code⟩
    · obtain ⟨qs, a1, a2, a3⟩ := told p hp
      refine ⟨qs, ((upd_ne (ne_of_none a1 fresh)).trans (upd_ne hb)).trans a1, a2, ?_⟩
      intro p' cv hcv
      obtain ⟨c0, e1, e2⟩ := a3 p' cv hcv
      exact ⟨c0, e1, ext _ _ e2 codeO_ne⟩
end
/-- a lambda of one parameter: the parameter p is its own, all else is captured or global -/
structure Lam1 (p : Str) (scope : Scope) : Prop where
  kind : scope.kind = .function
  co : scope.isCoroutine = false
  gen : scope.isGenerator = false
  par : scope.names.lookup p = some .local
  cell : ∀ y ∈ scope.names, y.2 ≠ .cell
def lam1B (p : Str) (scope : Scope) : Bool :=
  decide (scope.kind = .function) && !scope.isCoroutine && !scope.isGenerator && decide (scope.names.lookup p = some .local) && scope.names.all fun y => !decide (y.2 = .cell)
theorem lam1_by {p : Str} {scope : Scope} (h : lam1B p scope = true) : Lam1 p scope := by
  unfold lam1B at h
  simp only [Bool.and_eq_true, Bool.not_eq_true', decide_eq_true_eq, decide_eq_false_iff_not, List.all_eq_true] at h
  obtain ⟨⟨⟨⟨a, b⟩, c⟩, d⟩, e⟩ := h
  exact ⟨a, b, c, d, e⟩
/-- the lambda at f, its captured names and their values; C: its cells -/
def LamAt (q : Str) (params : Arguments) (body : Expr) (scope : Scope) (caps : List Str) (vals : List V) (C : Pn) (f : Addr) (H : Hp) : Prop :=
  ∃ (c' : Addr) (cl : List (Str × Addr)) (pm ctv : Value), H f = some (FrzO (lamO q params body scope cl pm c' ctv)) ∧ H c' = some (CodeO c' q) ∧ (∀ b o, C b = some o → H b = some (FrzO o)) ∧
    (∀ y ∈ scope.names, y.2 = .free → ∃ c, cl.lookup y.1 = some c) ∧ (∀ x y c, cl.lookup x = some c → cl.lookup y = some c → x = y) ∧ (∀ x c, cl.lookup x = some c → ∃ o v, C c = some o ∧ o.data = .cell v) ∧
    ∀ (j : Nat) (x : Str) (v : V), caps[j]? = some x → vals[j]? = some v → scope.names.lookup x = some .free ∧ ∃ c o u, cl.lookup x = some c ∧ C c = some o ∧ o.data = .cell (some u) ∧ RelV v u
theorem LamAt.to {q : Str} {params : Arguments} {body : Expr} {scope : Scope} {caps : List Str} {vals : List V} {C : Pn} {f : Addr} {H H' : Hp} (h : LamAt q params body scope caps vals C f H) (e : ∀ b o, H b = some o → H' b = some o) : LamAt q params body scope caps vals C f H' := by
  obtain ⟨c', cl, pm, ctv, h1, h2, h3, rest⟩ := h
  exact ⟨c', cl, pm, ctv, e _ _ h1, e _ _ h2, fun b o z => e _ _ (h3 b o z), rest⟩
theorem LamAt.fn {q : Str} {params : Arguments} {body : Expr} {scope : Scope} {caps : List Str} {vals : List V} {C : Pn} {f : Addr} {H : Hp} {P : Program} {w : World} {h : Heap} (l : LamAt q params body scope caps vals C f H) (k : HOk P w H h) : PySem.W.FnAt f h := by
  obtain ⟨c', cl, pm, ctv, h1, -⟩ := l
  exact ⟨_, _, _, _, frzO_at (k f _ h1)⟩
/-- the context of the lambda's body -/
def lamC (P : Program) (w : World) (K : PySem.W.Frag) (mg : Str → Option Value) (base : Heap) (N : List Str) (q : Str) (A : Around) (outer : List Env) (s : Shared) (H : Hp) (scope : Scope) (f c' : Addr) (cl : List (Str × Addr)) : Cx where
  prog := P
  w := w
  K := K
  mg := mg
  base := base
  A := A.deeper (PySem.W.envX q scope s.heap.objs.size f (.ref c') cl)
  N := N
  s_0 := s
  H_0 := H
  env := PySem.W.envX q scope s.heap.objs.size f (.ref c') cl
  outer := outer
  stack := PySem.W.envX q scope s.heap.objs.size f (.ref c') cl :: outer
  ex := []
  fn := fun _ => false
  calm := true
  pn := []
  xe := fun _ _ => False
section
variable {P : Program} {w : World} {K : PySem.W.Frag} {mg : Str → Option Value} {base : Heap} {A : Around} {outer : List Env} {s : Shared} {H : Hp} {C : Pn} {scope : Scope} {f c' : Addr} {cl : List (Str × Addr)} {p q : Str} {caps : List Str} {vals : List V} {v : V} {u : Value} {h₁ : Heap} {tk : Nat}
theorem lamC_start (e : Env0 P w K mg base A outer s H) (hd : A.handled = none) (L : Lam1 p scope) (hC : ∀ b o, C b = some o → H b = some (FrzO o))
    (has : ∀ y ∈ scope.names, y.2 = .free → ∃ c, cl.lookup y.1 = some c) (inj : ∀ x y c, cl.lookup x = some c → cl.lookup y = some c → x = y) (cells : ∀ x c, cl.lookup x = some c → ∃ o v, C c = some o ∧ o.data = .cell v)
    (caught : ∀ (j : Nat) (x : Str) (v : V), caps[j]? = some x → vals[j]? = some v → scope.names.lookup x = some .free ∧ ∃ c o u, cl.lookup x = some c ∧ C c = some o ∧ o.data = .cell (some u) ∧ RelV v u) (len : vals.length = caps.length) (rv : RelV v u)
    (ns : h₁.Ns s.heap.objs.size fun y => [(p, u)].reverse.lookup y) (kp : ∀ b o, s.heap.get? b = some o → h₁.get? b = some o) :
    Inv (lamC P w K mg base (p :: caps) q A outer s (minC H C) scope f c' cl) [] (some v :: vals.map some) (minC H C) { s with heap := h₁, toks := tk } := by
  have e' := env0_min e hC
  have noA : ∀ b : Addr, b ∉ (lamC P w K mg base (p :: caps) q A outer s (minC H C) scope f c' cl).ex := fun b z => absurd (show b ∈ ([] : List Addr) from z) (by simp)
  have cell : ∀ {c : Addr} {o : Obj}, C c = some o → h₁.get? c = some o := fun {c o} z => kp _ _ (frzO_at (e.hok c _ (hC c o z)))
  refine ⟨⟨e'.mod, L.kind, rfl, rfl, Nat.le_refl _, inj, fun y hy => ?_, fun y c z _ => ?_, fun _ => hd, Around.frames_deeper e'.frames, .inr ⟨rfl, rfl⟩, fun b z => absurd z (noA b), e'.bs, e'.bsz, fun b _ _ => noA b, fun b z => absurd z (noA b), e'.funs, e'.frf⟩,
    rfl, e'.bare, Un.kept kp, ⟨_, ns, fun i y v' e1 e2 e3 => ?_⟩, fun y c z => ?_, e'.hok.fresh (Nat.le_refl _), fun y c z => ?_, fun x hx => absurd (show x ∈ ([] : List (Addr × Obj)) ++ [] from hx) (by simp), e'.hok.kept kp, ?_⟩
  · have hy : scope.names.lookup y = some .cell ∨ scope.names.lookup y = some .free := hy
    rcases hy with hy | hy
    · exact absurd rfl (L.cell _ (PySem.mem_of_lookup hy))
    · exact has _ (PySem.mem_of_lookup hy) rfl
  · have z : false = true := z
    cases z
  · cases i with
    | zero =>
      have e1 : p = y := Option.some.inj e1
      have e2 : v = v' := Option.some.inj (Option.some.inj e2)
      subst e1 e2
      exact ⟨u, rv, .inl ⟨L.par, by show ([(p, u)] : List (Str × Value)).reverse.lookup p = some u; simp⟩⟩
    | succ j =>
      have e1 : caps[j]? = some y := e1
      have e2 : (vals.map some)[j]? = some (some v') := e2
      have e2 : vals[j]? = some v' := by
        rw [List.getElem?_map] at e2
        cases z : vals[j]? with
        | none => rw [z] at e2; cases e2
        | some x => rw [z] at e2; exact congrArg some (Option.some.inj (Option.some.inj e2))
      obtain ⟨k, c, o, u', l, z, d, r⟩ := caught j y v' e1 e2
      exact ⟨u', r, .inr ⟨.inr k, c, l, o, cell z, d⟩⟩
  · obtain ⟨o, v', a, d⟩ := cells y c z
    exact ⟨v', o, cell a, d⟩
  · obtain ⟨o, v', a, d⟩ := cells y c z
    exact minC_in a
  · show (some v :: vals.map some).length = (p :: caps).length
    simp [len]
end
section
variable {Y : Cx} {p q a : Str} {params : Arguments} {body arg : Expr} {scope : Scope} {caps : List Str} {i k : Nat} {te tb : TE} {p1 p2 : Pos}
/-- tell(arg), in what got the lambda -/
def tTell (q p : Str) (params : Arguments) (body : Expr) (scope : Scope) (caps : List Str) (i : Nat) (te tb : TE) : TE := fun σ H Q => ∃ (f : Addr) (vals : List V) (C : Pn), σ[i]? = some (some (.ref f)) ∧ vals.length = caps.length ∧ LamAt q params body scope caps vals C f H ∧
  te σ H fun v H1 => LamAt q params body scope caps vals C f H1 ∧ tb (some v :: vals.map some) (minC H1 C) fun v' H' => Q v' (putC H' C)
theorem pe_tell (L : Lam1 p scope) (hbind : ∀ (cl : List (Str × Addr)) (pm cv ctv u : Value), bindArgs (PySem.W.kla_fn "<lambda>" q params body scope cl pm cv ctv) ⟨[u], []⟩ = pure [(p, u)]) (gd : Gd Y.A) (hr : Room (k + 1) Y.A)
    (hbody : ∀ (A : Around) (outer : List Env) (s : Shared) (H : Hp) (f c' : Addr) (cl : List (Str × Addr)), Gd (A.deeper (PySem.W.envX q scope s.heap.objs.size f (.ref c') cl)) → Room k (A.deeper (PySem.W.envX q scope s.heap.objs.size f (.ref c') cl)) →
      PE (lamC Y.prog Y.w Y.K Y.mg Y.base (p :: caps) q A outer s H scope f c' cl) body tb)
    (ha : PE Y arg te) (hN : Y.N[i]? = some a) (hv : Vis Y.env.scope a) (hd : (a == ("__debug__" : Str)) = false := by decide) (hcd : (a == ("__classdict__" : Str)) = false := by decide)
    (he : starEach [arg] Y.env = (false, eval arg Y.env) :: starEach [] Y.env := by rfl) (hpl : (backTo p2 (starEach [] Y.env)).any (·.1) = false := by rfl) :
    PE Y (.Call (.Name a p1) [arg] [] p2) (tTell q p params body scope caps i te tb) := by
  refine ⟨fun pins s σ H Q I h => ?_⟩
  obtain ⟨f, vals, C, hs, len, l0, ht⟩ := h
  refine wpAny_Call_Name_kw (thn ((pe_var (pos := p1) (i := i) hN hv hd hcd).run pins s σ H (fun v H1 => v = .ref f ∧ H1 = H) I ⟨.ref f, hs, rfl, rfl⟩) fun u s1 ⟨v, H1, I1, r1, q1⟩ => ?_)
  obtain ⟨rfl, rfl⟩ := q1
  obtain rfl : u = Value.ref f := r1
  refine PySem.W.callWith_F (l0.fn I1.hok) (thn ((pa_cons ha pa_nil he).run p2 pins s1 σ _ (fun vs H2 => ∃ v, vs = [v] ∧ LamAt q params body scope caps vals C f H2 ∧ tb (some v :: vals.map some) (minC H2 C) fun v' H' => Q v' (putC H' C)) I1 ?_) ?_) he hpl
  · show te σ _ fun x H1 => tNil σ H1 _
    revert ht
    generalize te = te
    intro ht
    exact cast (by congr; funext v H1; simp [tNil]) ht
  rintro us s2 ⟨vs, H2, I2, r, v, rfl, l, go⟩
  cases r with
  | cons rv rn =>
    cases rn
    refine ⟨l.fn I2.hok, ?_⟩
    obtain ⟨c', cl, pm, ctv, h1, h2, h3, h4, h5, h6, h7⟩ := l
    have of1 := frzO_at (I2.hok f _ h1)
    obtain ⟨⟨oc, ws, t, hoc, hdc, hvc⟩, _, _⟩ := I2.hok c' _ h2
    refine wpAny_call (codeAny_mono (R := CR CX0 Y.stack Y.prog Y.w H2 s2 Q E0) ?_ ?_)
    · refine PySem.W.kla_callFunE hr.depth of1 rfl L.co L.gen rfl ⟨c', oc, ws, t, rfl, hoc, hdc, hvc⟩ ?_
      rw [show ([] : List Value) ++ [_] = [_] from rfl, hbind]
      refine wpAny_pure (wpAny_newFunctionEnv (fun y hy => L.cell y hy) (fun y hy => ?_) (fun h₁ hns hsb => ⟨I2.nolimit.fresh _ hsb, ?_⟩) L.kind)
      · rw [List.mem_singleton.mp hy]; exact L.par
      have kp : ∀ b o, s2.heap.get? b = some o → h₁.get? b = some o := fun b o e => hsb.extBut b o (Nat.ne_of_lt (Heap.lt_size e)) (Heap.get?_push_of_some _ e)
      have J := lamC_start (q := q) (f := f) (c' := c') (tk := s2.toks + 1) I2.env0 hr.hd L h3 h4 h5 h6 h7 len rv hns kp
      refine PySem.W.kla_codeExpr (wpAny_mono ((hbody _ _ s2 (minC H2 C) f c' cl gd (hr.deeper _)).run [] _ _ _ _ J go) (fun v s' hq => ?_) fun e s' hq => False.elim hq)
      obtain ⟨w', H', J', rv', q'⟩ := hq
      exact ce_put I2.env0 h3 ⟨w', H', J'.os, J'.bare, J'.base, J'.hok, rv', q'⟩
    · intro r s' hq
      cases r with
      | error e => exact False.elim hq
      | ok fl =>
        cases fl with
        | ret u => exact I2.after hq
        | next => exact False.elim hq
        | brk => exact False.elim hq
        | cont => exact False.elim hq
end
end Hw

set_option Elab.async false
set_option linter.all false
set_option maxRecDepth 100000
set_option maxHeartbeats 4000000
namespace Hw
open PySem PySem.Spec PyProof.Rows L2 LamX
section
variable {X : Cx}
def tLamE (T : List (Addr × Str)) (mk : Value → Addr → Value → Obj) (q : Str) : TE := fun σ H Q => Tabs T H ∧ ∀ (f c' : Addr) (pm ctv : Value) (H1 : Hp), ExtN H H1 → Tabs T H1 → H1 f = none → H1 c' = some (CodeO c' q) → Q (.ref f) (upd H1 f (FrzO (mk pm c' ctv)))
/-- a lambda that reads the maker's names -/
theorem pe_lamE {T : List (Addr × Str)} {c t : Addr} {params : Arguments} {body : Expr} {scope : Scope} {pos : Pos} (B : TabB X.base X.mg c t) (own : X.env.code = .ref c) (listed : (t, X.env.qual ++ "<lambda>") ∈ T) (alone : ∀ p ∈ T, p.1 = t → p.2 = X.env.qual ++ "<lambda>")
    (noDef : defaultsOf params X.env = ([], [])) (free : ∀ y ∈ scope.names, y.2 = .free → X.env.scope.names.lookup y.1 = some .cell) :
    PE X (.Lambda params body scope pos) (tLamE T (fun pm c' ctv => lamO (X.env.qual ++ "<lambda>") params body scope (cloFrom X.env.cells scope.names []) pm c' ctv) (X.env.qual ++ "<lambda>")) := by
  refine ⟨fun pins s σ H Q I h => ?_⟩
  refine lam_make3 I B own listed alone h.1 noDef (fun y hy e => I.ok.has _ (.inl (free y hy e))) ?_
  intro f c' pm ctv H1 s' J ext tabs new code
  exact ⟨.ref f, _, J, rfl, h.2 f c' pm ctv H1 ext tabs new code⟩
/-- what a lambda's scope captures, told by the maker's names -/
structure Caps (N : List Str) (sc scope : Scope) (caps : List Str) (is : List Nat) : Prop where
  free : ∀ y ∈ scope.names, y.2 = .free → sc.names.lookup y.1 = some .cell
  at_ : is.map (fun i => N[i]?) = caps.map some
  caught : ∀ x ∈ caps, scope.names.lookup x = some .free ∧ sc.names.lookup x = some .cell
def capsB (N : List Str) (sc scope : Scope) (caps : List Str) (is : List Nat) : Bool :=
  scope.names.all (fun y => !decide (y.2 = .free) || decide (sc.names.lookup y.1 = some .cell)) && decide (is.map (fun i => N[i]?) = caps.map some) && caps.all fun x => decide (scope.names.lookup x = some .free) && decide (sc.names.lookup x = some .cell)
theorem caps_by {N : List Str} {sc scope : Scope} {caps : List Str} {is : List Nat} (h : capsB N sc scope caps is = true) : Caps N sc scope caps is := by
  unfold capsB at h
  simp only [Bool.and_eq_true, Bool.or_eq_true, Bool.not_eq_true', decide_eq_true_eq, decide_eq_false_iff_not, List.all_eq_true] at h
  obtain ⟨⟨h1, h2⟩, h3⟩ := h
  exact ⟨fun y hy e => (h1 y hy).resolve_left fun z => z e, h2, h3⟩
/-- the cells that a closure reads, as they are now -/
def cellsP (cl : List (Str × Addr)) (h : Heap) : Pn := fun b => if b ∈ cl.map (·.2) then h.get? b else none
section
variable {pins : List (Addr × Obj)} {σ : L2.St} {H : Hp} {s : Shared} {scope : Scope} {caps : List Str} {is : List Nat}
theorem clo_of (I : Inv X pins σ H s) (free : ∀ y ∈ scope.names, y.2 = .free → X.env.scope.names.lookup y.1 = some .cell) {x : Str} {c : Addr} (h : (x, c) ∈ cloFrom X.env.cells scope.names []) : X.env.cells.lookup x = some c := by
  rcases cloFrom_mem h with hm | ⟨h1, h2⟩
  · cases hm
  · obtain ⟨c1, hc⟩ := I.ok.has x (.inl (free _ h1 rfl))
    rw [hc] at h2
    rw [h2, hc]
    rfl
theorem cellsP_ok (I : Inv X pins σ H s) (free : ∀ y ∈ scope.names, y.2 = .free → X.env.scope.names.lookup y.1 = some .cell) (fn : ∀ y, X.fn y = true) :
    ∀ b o, cellsP (cloFrom X.env.cells scope.names []) s.heap b = some o → s.heap.get? b = some o ∧ H b = none ∧ X.base.get? b = none ∧ b ∉ frs X.stack := by
  intro b o h
  unfold cellsP at h
  split at h
  · rename_i hm
    obtain ⟨⟨x, c⟩, hp, e⟩ := List.mem_map.mp hm
    have e : c = b := e
    subst e
    have hc := clo_of I free hp
    have above := I.ok.cab x c (fn x) hc
    refine ⟨h, I.freeC x c hc, Heap.get?_none_of_le (Nat.le_trans I.ok.bsz above), fun z => ?_⟩
    rcases List.mem_cons.mp (I.stkSub _ z) with e | hb
    · exact I.cne x c hc e
    · obtain ⟨_, o', ho, _⟩ := I.ok.funs.mem hb
      exact absurd (Nat.lt_of_lt_of_le (Heap.lt_size ho) above) (Nat.lt_irrefl _)
  · cases h
theorem lamAt_made {q : Str} {params : Arguments} {body : Expr} {f c' : Addr} {pm ctv : Value} {vals : List V} (I : Inv X pins σ H s) (cp : Caps X.N X.env.scope scope caps is) (fn : ∀ y, X.fn y = true)
    (hf : H f = some (FrzO (lamO q params body scope (cloFrom X.env.cells scope.names []) pm c' ctv))) (hc' : H c' = some (CodeO c' q)) (hv : is.map (fun i => σ[i]?) = vals.map (fun v => some (some v))) :
    LamAt q params body scope caps vals (cellsP (cloFrom X.env.cells scope.names []) s.heap) f (putC H (cellsP (cloFrom X.env.cells scope.names []) s.heap)) := by
  have ok := cellsP_ok I cp.free fn
  have hN : ∀ b o, cellsP (cloFrom X.env.cells scope.names []) s.heap b = some o → H b = none := fun b o z => (ok b o z).2.1
  have here : ∀ {x c}, (x, c) ∈ cloFrom X.env.cells scope.names [] → cellsP (cloFrom X.env.cells scope.names []) s.heap c = s.heap.get? c := fun {x c} hm => by
    unfold cellsP
    rw [if_pos (List.mem_map.mpr ⟨(x, c), hm, rfl⟩)]
  refine ⟨c', _, pm, ctv, putC_same hN hf, putC_same hN hc', fun b o z => putC_in z, fun y hy e => ?_, fun x y c h1 h2 => ?_, fun x c h1 => ?_, fun j x v h1 h2 => ?_⟩
  · have hy : (y.1, NameKind.free) ∈ scope.names := by rw [← e]; exact hy
    exact mem_lookup (cloFrom_has (cells := X.env.cells) (acc := []) hy)
  · exact I.ok.inj x y c (clo_of I cp.free (PySem.mem_of_lookup h1)) (clo_of I cp.free (PySem.mem_of_lookup h2))
  · obtain ⟨v, o, ho, hd⟩ := I.cell x c (clo_of I cp.free (PySem.mem_of_lookup h1))
    exact ⟨o, v, by rw [here (PySem.mem_of_lookup h1)]; exact ho, hd⟩
  · obtain ⟨k1, k2⟩ := cp.caught x (List.mem_of_getElem? h1)
    have e1 : (is.map fun i => X.N[i]?)[j]? = some (some x) := by rw [cp.at_, List.getElem?_map, h1]; rfl
    have e2 : (is.map fun i => σ[i]?)[j]? = some (some (some v)) := by rw [hv, List.getElem?_map, h2]; rfl
    rw [List.getElem?_map] at e1 e2
    cases z : is[j]? with
    | none => rw [z] at e1; cases e1
    | some i =>
      rw [z] at e1 e2
      have e1 : X.N[i]? = some x := Option.some.inj e1
      have e2 : σ[i]? = some (some v) := Option.some.inj e2
      obtain ⟨m, hn, hl⟩ := I.loc
      obtain ⟨u, rv, look⟩ := hl i x v e1 e2 (.inr (.inl k2))
      obtain ⟨c, hc⟩ := mem_lookup (cloFrom_has (cells := X.env.cells) (acc := []) (PySem.mem_of_lookup k1))
      refine ⟨k1, ?_⟩
      rcases look with ⟨k, _⟩ | ⟨_, c3, l3, o, ho, hd⟩
      · have k : X.env.scope.names.lookup x = some .local := k
        rw [k2] at k
        cases k
      · have hc2 := clo_of I cp.free (PySem.mem_of_lookup hc)
        have hc2 : c3 = c := Option.some.inj (l3.symm.trans hc2)
        subst hc2
        exact ⟨_, o, u, hc, by rw [here (PySem.mem_of_lookup hc)]; exact ho, hd, rv⟩
end
/-- x(e1, e2, lambda p: body) -/
def tGLam (T : List (Addr × Str)) (q : Str) (params : Arguments) (body : Expr) (scope : Scope) (caps : List Str) (is : List Nat) (sp : Sp) (te1 te2 : TE) : TE := fun σ H Q => te1 σ H fun v1 H1 => te2 σ H1 fun v2 H2 => Tabs T H2 ∧
  ∃ vals : List V, is.map (fun i => σ[i]?) = vals.map (fun v => some (some v)) ∧ ∀ (H3 : Hp) (f : Addr) (C : Pn), ExtN H2 H3 → Tabs T H3 → (∀ b o, C b = some o → H3 b = none) → LamAt q params body scope caps vals C f (putC H3 C) →
    sp [v1, v2, .ref f] (putC H3 C) (fun v H' => Q v (minC H' C)) E0
theorem pe_gLam {T : List (Addr × Str)} {k : Nat} {x : Str} {g c t : Addr} {fd : FuncData} {ps : List Str} {sp : Sp} {e1 e2 : Expr} {te1 te2 : TE} {params : Arguments} {body : Expr} {scope : Scope} {caps : List Str} {is : List Nat} {p lpos pos : Pos}
    (F : FnG X.prog X.w X.K X.mg X.base CX0 k g fd ps sp) (gd : Gd X.A) (hr : Room k X.A) (hg : Gl X x) (hm : X.mg x = some (.ref g)) (hk : PySem.W.keepIn X.K (.ref g) = true) (hb : Binds X.K fd ps []) (h1 : PE X e1 te1) (h2 : PE X e2 te2)
    (B : TabB X.base X.mg c t) (own : X.env.code = .ref c) (listed : (t, X.env.qual ++ "<lambda>") ∈ T) (alone : ∀ p ∈ T, p.1 = t → p.2 = X.env.qual ++ "<lambda>") (cp : Caps X.N X.env.scope scope caps is) (fn : ∀ y, X.fn y = true)
    (noDef : defaultsOf params X.env = ([], [])) (hdb : (x == ("__debug__" : Str)) = false := by decide)
    (he1 : starEach [e1, e2, .Lambda params body scope lpos] X.env = (false, eval e1 X.env) :: starEach [e2, .Lambda params body scope lpos] X.env := by rfl) (he2 : starEach [e2, .Lambda params body scope lpos] X.env = (false, eval e2 X.env) :: starEach [.Lambda params body scope lpos] X.env := by rfl)
    (hpl : (backTo pos (starEach [e2, .Lambda params body scope lpos] X.env)).any (·.1) = false := by rfl) :
    PE X (.Call (.Name x p) [e1, e2, .Lambda params body scope lpos] [] pos) (tGLam T (X.env.qual ++ "<lambda>") params body scope caps is sp te1 te2) := by
  refine ⟨fun pins s σ H Q I h => ?_⟩
  refine wpAny_Call_Name_kw (ld_glob I hg hm ?_ hdb)
  refine PySem.W.callWith_K (h₀ := X.base) I.ok.mod.kin hk ?_ he1 hpl
  rw [he1]
  show wpAny _ _ (spliced ((false, eval e1 X.env) :: backTo pos (starEach [e2, .Lambda params body scope lpos] X.env))) _ _ s
  refine Calls.spliced_cons (thn (h1.run pins s σ H _ I h) ?_)
  rintro u1 s1 ⟨v1, H1, I1, r1, q1⟩
  rw [he2]
  show wpAny _ _ (spliced ((false, eval e2 X.env) :: backTo pos (starEach [.Lambda params body scope lpos] X.env))) _ _ s1
  refine Calls.spliced_cons (thn (h2.run pins s1 σ H1 _ I1 q1) ?_)
  rintro u2 s2 ⟨v2, H2, I2, r2, tabs, vals, hv, go⟩
  show wpAny _ _ (spliced ((false, eval (.Lambda params body scope lpos) X.env) :: backTo pos (starEach [] X.env))) _ _ s2
  refine Calls.spliced_cons (lam_make3 I2 B own listed alone tabs noDef (fun y hy e => I2.ok.has _ (.inl (cp.free y hy e))) ?_)
  intro f c' pm ctv H3 s3 I3 ext tabs3 new code
  refine Calls.spliced_nil ⟨I3.kIn, ?_⟩
  have ext' : ∀ b o, H3 b = some o → upd H3 f (FrzO (lamO (X.env.qual ++ "<lambda>") params body scope (cloFrom X.env.cells scope.names []) pm c' ctv)) b = some o := fun b o e => by
    rw [upd_ne (ne_of_none e new)]
    exact e
  have ok := cellsP_ok I3 cp.free fn
  have l := lamAt_made (vals := vals) I3 cp fn upd_same (ext' _ _ code) hv
  have want := go _ f _ (ext.trans (ExtN.of ext')) (tabs3.ext ext') (fun b o z => (ok b o z).2.1) l
  have rel : Vals [v1, v2, V.ref f] [u1, u2, Value.ref f] := .cons r1 (.cons r2 (.cons rfl .nil))
  have bind : BindsTo s3 fd ⟨[] ++ [u1, u2, Value.ref f], []⟩ (ps.zip ([u1, u2, Value.ref f] ++ [])) := hb s3 [u1, u2, Value.ref f] I3.kIn (show 3 = ps.length from F.arity _ _ _ _ want)
  refine wpAny_call (codeAny_mono (F.go X.A X.stack s3 _ ⟨[u1, u2, Value.ref f], []⟩ _ _ _ E0 gd hr (env0_put I3.env0 ok) bind rel want) ?_)
  intro r s' hq
  match r, hq with
  | .error e, hq => exact (show False from hq).elim
  | .ok (.ret u), hq => exact I3.after (ce_min ok hq)
  | .ok .next, hq => exact (show False from hq).elim
  | .ok .brk, hq => exact (show False from hq).elim
  | .ok .cont, hq => exact (show False from hq).elim
/-- math.lcm of two numbers -/
def rLcm : List V → Hp → VK → Prop := fun vs H Q => ∃ a b : Int, vs = [.int a, .int b] ∧ a.natAbs < 2 ^ 64 ∧ b.natAbs < 2 ^ 64 ∧ Q (.int ((Nat.lcm a.natAbs b.natAbs : Nat) : Int)) H
theorem cr_lcm : CallR X (.builtin "math.lcm") rLcm := by
  intro pins s σ H vs us Q I r h
  obtain ⟨a, b, rfl, ha, hb, q⟩ := h
  obtain ⟨t, u, rfl⟩ := Vals.int2 r
  exact PySem.W.mc_lcm ha hb fun _ => ⟨.int _, H, I.tok _, ⟨_, rfl⟩, q⟩
end
end Hw

set_option Elab.async false
set_option linter.all false
set_option maxRecDepth 100000
set_option maxHeartbeats 4000000

namespace K41
open PySem PySem.Spec PyProof.Rows L2 Hw
def topS (i : Nat) : Stmt := PySem.Challenge.pw_howeverwide_k41_whole_widths_joined.main.body.getD i (.Pass ⟨0, 0, 0, 0⟩)
abbrev s_is_whole : Stmt := topS 8
theorem sc_is_whole : FnScope ["value"] ["value"] (defScope s_is_whole) := ⟨rfl, rfl, rfl, by decide +kernel, rfl, by decide +kernel, by decide +kernel⟩
abbrev s_is_count : Stmt := topS 9
theorem sc_is_count : FnScope ["value"] ["value"] (defScope s_is_count) := ⟨rfl, rfl, rfl, by decide +kernel, rfl, by decide +kernel, by decide +kernel⟩
abbrev s_is_count_to : Stmt := topS 10
theorem sc_is_count_to : FnScope ["value", "most"] ["value", "most"] (defScope s_is_count_to) := ⟨rfl, rfl, rfl, by decide +kernel, rfl, by decide +kernel, by decide +kernel⟩
abbrev s_is_widths : Stmt := topS 14
theorem sc_is_widths : FnScope ["value"] ["value"] (defScope s_is_widths) := ⟨rfl, rfl, rfl, by decide +kernel, rfl, by decide +kernel, by decide +kernel⟩
abbrev s_are_told : Stmt := topS 15
theorem sc_are_told : FnScope ["value", "told"] ["value"] (defScope s_are_told) := ⟨rfl, rfl, rfl, by decide +kernel, rfl, by decide +kernel, by decide +kernel⟩
abbrev s_check_widths : Stmt := topS 16
theorem sc_check_widths : FnScope ["widths"] ["widths"] (defScope s_check_widths) := ⟨rfl, rfl, rfl, by decide +kernel, rfl, by decide +kernel, by decide +kernel⟩
abbrev s_check_wide : Stmt := topS 17
theorem sc_check_wide : FnScope ["width"] ["width"] (defScope s_check_wide) := ⟨rfl, rfl, rfl, by decide +kernel, rfl, by decide +kernel, by decide +kernel⟩
abbrev s_has_width : Stmt := topS 18
theorem sc_has_width : FnScope ["widths", "width"] ["widths", "width"] (defScope s_has_width) := ⟨rfl, rfl, rfl, by decide +kernel, rfl, by decide +kernel, by decide +kernel⟩
abbrev s_is_in : Stmt := topS 19
theorem sc_is_in : FnScope ["widths", "width", "ahead", "turn"] ["widths", "width"] (defScope s_is_in) := ⟨rfl, rfl, rfl, by decide +kernel, rfl, by decide +kernel, by decide +kernel⟩
abbrev s_made_plain : Stmt := topS 20
theorem sc_made_plain : FnScope ["ahead", "turn", "size", "less", "begin"] ["ahead", "turn"] (defScope s_made_plain) := ⟨rfl, rfl, rfl, by decide +kernel, rfl, by decide +kernel, by decide +kernel⟩
abbrev s_shortest_turn : Stmt := topS 21
theorem sc_shortest_turn : FnScope ["turn", "size"] ["turn"] (defScope s_shortest_turn) := ⟨rfl, rfl, rfl, by decide +kernel, rfl, by decide +kernel, by decide +kernel⟩
abbrev s_joined_widths : Stmt := topS 22
theorem sc_joined_widths : FnScope ["way", "one", "other", "ahead", "together", "told", "width"] ["way", "one", "other"] (defScope s_joined_widths) := ⟨rfl, rfl, rfl, by decide +kernel, rfl, by decide +kernel, by decide +kernel⟩
abbrev s_are_joined : Stmt := topS 23
theorem sc_are_joined : FnScope ["way", "one", "other"] ["way", "one", "other"] (defScope s_are_joined) := ⟨rfl, rfl, rfl, by decide +kernel, rfl, by decide +kernel, by decide +kernel⟩
abbrev s_common_lengths : Stmt := topS 24
theorem sc_common_lengths : FnScope ["one", "other"] ["one", "other"] (defScope s_common_lengths) := ⟨rfl, rfl, rfl, by decide +kernel, rfl, by decide +kernel, by decide +kernel⟩
abbrev s_turned_widths : Stmt := topS 25
theorem sc_turned_widths : FnScope ["widths", "told"] ["widths"] (defScope s_turned_widths) := ⟨rfl, rfl, rfl, by decide +kernel, rfl, by decide +kernel, by decide +kernel⟩
abbrev s_parting_width : Stmt := topS 26
theorem sc_parting_width : FnScope ["one", "other", "ahead", "together", "width"] ["one", "other"] (defScope s_parting_width) := ⟨rfl, rfl, rfl, by decide +kernel, rfl, by decide +kernel, by decide +kernel⟩
abbrev s_later_widths : Stmt := topS 27
theorem sc_later_widths : FnScope ["widths", "many"] ["widths", "many"] (defScope s_later_widths) := ⟨rfl, rfl, rfl, by decide +kernel, rfl, by decide +kernel, by decide +kernel⟩
abbrev s_law_hash : Stmt := topS 29
theorem sc_law_hash : FnScope ["_law_seed", "_law_index", "_law_mixed"] ["_law_seed", "_law_index"] (defScope s_law_hash) := ⟨rfl, rfl, rfl, by decide +kernel, rfl, by decide +kernel, by decide +kernel⟩
abbrev s_law_random : Stmt := topS 30
theorem sc_law_random : FnScope ["_law_generator_here", "_law_bound", "_law_drawn", "_law_turn"] ["_law_generator_here", "_law_bound"] (defScope s_law_random) := ⟨rfl, rfl, rfl, by decide +kernel, rfl, by decide +kernel, by decide +kernel⟩
abbrev s_law_cell : Stmt := topS 31
theorem sc_law_cell : FnScope ["_law_script", "_law_index"] ["_law_script", "_law_index"] (defScope s_law_cell) := ⟨rfl, rfl, rfl, by decide +kernel, rfl, by decide +kernel, by decide +kernel⟩
abbrev s_law_generator : Stmt := topS 32
theorem sc_law_generator : FnScope ["_law_script", "_law_index", "_law_seed"] ["_law_script", "_law_index"] (defScope s_law_generator) := ⟨rfl, rfl, rfl, by decide +kernel, rfl, by decide +kernel, by decide +kernel⟩
abbrev s_law_item : Stmt := topS 33
theorem sc_law_item : FnScope ["_law_told", "_law_width_told", "_law_ahead", "_law_turn"] ["_law_told", "_law_width_told"] (defScope s_law_item) := ⟨rfl, rfl, rfl, by decide +kernel, rfl, by decide +kernel, by decide +kernel⟩
abbrev s_law_plain : Stmt := topS 34
theorem sc_law_plain : FnScope ["_law_told", "_law_ahead", "_law_turn", "_law_sizes", "_law_step", "_law_size"] ["_law_told"] (defScope s_law_plain) := ⟨rfl, rfl, rfl, by decide +kernel, rfl, by decide +kernel, by decide +kernel⟩
abbrev s_law_set : Stmt := topS 35
theorem sc_law_set : FnScope ["_law_generator_here", "_law_most", "_law_ahead", "_law_step"] ["_law_generator_here", "_law_most"] (defScope s_law_set) := ⟨rfl, rfl, rfl, by decide +kernel, rfl, by decide +kernel, by decide +kernel⟩
abbrev s_law_put_longer : Stmt := topS 36
theorem sc_law_put_longer : FnScope ["_law_generator_here", "_law_told", "_law_ahead", "_law_turn", "_law_step"] ["_law_generator_here", "_law_told"] (defScope s_law_put_longer) := ⟨rfl, rfl, rfl, by decide +kernel, rfl, by decide +kernel, by decide +kernel⟩
abbrev s_law_of_items : Stmt := topS 37
theorem sc_law_of_items : FnScope ["_law_many_told", "_law_turn", "_law_tell", "_law_at"] ["_law_many_told", "_law_turn", "_law_tell"] (defScope s_law_of_items) := ⟨rfl, rfl, rfl, by decide +kernel, rfl, by decide +kernel, by decide +kernel⟩
abbrev s_law_way : Stmt := topS 38
theorem sc_law_way : FnScope ["_law_way_told", "_law_low", "_law_high"] ["_law_way_told", "_law_low", "_law_high"] (defScope s_law_way) := ⟨rfl, rfl, rfl, by decide +kernel, rfl, by decide +kernel, by decide +kernel⟩
abbrev s_law_right : Stmt := topS 39
theorem sc_law_right : FnScope ["_law_generator_here", "_law_kept", "_law_size", "_law_far", "_law_due", "_law_found", "_law_later", "_law_unlike", "_law_turned", "_law_high", "_law_low", "_law_way_told", "_law_at", "_law_item_here"] ["_law_generator_here"] (defScope s_law_right) := ⟨rfl, rfl, rfl, by decide +kernel, rfl, by decide +kernel, by decide +kernel⟩
abbrev s_law : Stmt := topS 40
theorem sc_law : FnScope ["_law_script", "_law_index", "_law_odd", "_law_threes", "_law_told", "_law_due", "_law_wide"] ["_law_script"] (defScope s_law) := ⟨rfl, rfl, rfl, by decide +kernel, rfl, by decide +kernel, by decide +kernel⟩
/-- what the top has written -/
def waysV : List V := [.str "and", .str "or", .str "unlike"]
/-- the tuple of the ways stands in the part that is read -/
def WaysAt (K : PySem.W.Frag) (a : Addr) : Prop := ∃ (o : Obj) (its : Array Value) (n : Nat), K.lookup a = some o ∧ o.cls = .type "tuple" ∧ o.data = .seq its n ∧ its.size ≤ sizeLine ∧ Vals waysV its.toList
structure Tx (K : PySem.W.Frag) (mg : Str → Option Value) where
  ways : Addr
  c_WAYS : ∃ u, mg "WAYS" = some u ∧ RelV (.ref ways) u
  atWays : WaysAt K ways
  m_lcm : mg "lcm" = some (.builtin "math.lcm")
  a_is_whole : Addr
  d_is_whole : FuncData
  F_is_whole : DefAt K "is_whole" s_is_whole a_is_whole d_is_whole
  g_is_whole : mg "is_whole" = some (.ref a_is_whole)
  a_is_count : Addr
  d_is_count : FuncData
  F_is_count : DefAt K "is_count" s_is_count a_is_count d_is_count
  g_is_count : mg "is_count" = some (.ref a_is_count)
  a_is_count_to : Addr
  d_is_count_to : FuncData
  F_is_count_to : DefAt K "is_count_to" s_is_count_to a_is_count_to d_is_count_to
  g_is_count_to : mg "is_count_to" = some (.ref a_is_count_to)
  a_is_widths : Addr
  d_is_widths : FuncData
  F_is_widths : DefAt K "is_widths" s_is_widths a_is_widths d_is_widths
  g_is_widths : mg "is_widths" = some (.ref a_is_widths)
  a_are_told : Addr
  d_are_told : FuncData
  F_are_told : DefAt K "are_told" s_are_told a_are_told d_are_told
  g_are_told : mg "are_told" = some (.ref a_are_told)
  a_check_widths : Addr
  d_check_widths : FuncData
  F_check_widths : DefAt K "check_widths" s_check_widths a_check_widths d_check_widths
  g_check_widths : mg "check_widths" = some (.ref a_check_widths)
  a_check_wide : Addr
  d_check_wide : FuncData
  F_check_wide : DefAt K "check_wide" s_check_wide a_check_wide d_check_wide
  g_check_wide : mg "check_wide" = some (.ref a_check_wide)
  a_has_width : Addr
  d_has_width : FuncData
  F_has_width : DefAt K "has_width" s_has_width a_has_width d_has_width
  g_has_width : mg "has_width" = some (.ref a_has_width)
  a_is_in : Addr
  d_is_in : FuncData
  F_is_in : DefAt K "is_in" s_is_in a_is_in d_is_in
  g_is_in : mg "is_in" = some (.ref a_is_in)
  a_made_plain : Addr
  d_made_plain : FuncData
  F_made_plain : DefAt K "made_plain" s_made_plain a_made_plain d_made_plain
  g_made_plain : mg "made_plain" = some (.ref a_made_plain)
  a_shortest_turn : Addr
  d_shortest_turn : FuncData
  F_shortest_turn : DefAt K "shortest_turn" s_shortest_turn a_shortest_turn d_shortest_turn
  g_shortest_turn : mg "shortest_turn" = some (.ref a_shortest_turn)
  a_joined_widths : Addr
  d_joined_widths : FuncData
  F_joined_widths : DefAt K "joined_widths" s_joined_widths a_joined_widths d_joined_widths
  g_joined_widths : mg "joined_widths" = some (.ref a_joined_widths)
  a_are_joined : Addr
  d_are_joined : FuncData
  F_are_joined : DefAt K "are_joined" s_are_joined a_are_joined d_are_joined
  g_are_joined : mg "are_joined" = some (.ref a_are_joined)
  a_common_lengths : Addr
  d_common_lengths : FuncData
  F_common_lengths : DefAt K "common_lengths" s_common_lengths a_common_lengths d_common_lengths
  g_common_lengths : mg "common_lengths" = some (.ref a_common_lengths)
  a_turned_widths : Addr
  d_turned_widths : FuncData
  F_turned_widths : DefAt K "turned_widths" s_turned_widths a_turned_widths d_turned_widths
  g_turned_widths : mg "turned_widths" = some (.ref a_turned_widths)
  a_parting_width : Addr
  d_parting_width : FuncData
  F_parting_width : DefAt K "parting_width" s_parting_width a_parting_width d_parting_width
  g_parting_width : mg "parting_width" = some (.ref a_parting_width)
  a_later_widths : Addr
  d_later_widths : FuncData
  F_later_widths : DefAt K "later_widths" s_later_widths a_later_widths d_later_widths
  g_later_widths : mg "later_widths" = some (.ref a_later_widths)
  a_law_hash : Addr
  d_law_hash : FuncData
  F_law_hash : DefAt K "_law_hash" s_law_hash a_law_hash d_law_hash
  g_law_hash : mg "_law_hash" = some (.ref a_law_hash)
  a_law_random : Addr
  d_law_random : FuncData
  F_law_random : DefAt K "_law_random" s_law_random a_law_random d_law_random
  g_law_random : mg "_law_random" = some (.ref a_law_random)
  a_law_cell : Addr
  d_law_cell : FuncData
  F_law_cell : DefAt K "_law_cell" s_law_cell a_law_cell d_law_cell
  g_law_cell : mg "_law_cell" = some (.ref a_law_cell)
  a_law_generator : Addr
  d_law_generator : FuncData
  F_law_generator : DefAt K "_law_generator" s_law_generator a_law_generator d_law_generator
  g_law_generator : mg "_law_generator" = some (.ref a_law_generator)
  a_law_item : Addr
  d_law_item : FuncData
  F_law_item : DefAt K "_law_item" s_law_item a_law_item d_law_item
  g_law_item : mg "_law_item" = some (.ref a_law_item)
  a_law_plain : Addr
  d_law_plain : FuncData
  F_law_plain : DefAt K "_law_plain" s_law_plain a_law_plain d_law_plain
  g_law_plain : mg "_law_plain" = some (.ref a_law_plain)
  a_law_set : Addr
  d_law_set : FuncData
  F_law_set : DefAt K "_law_set" s_law_set a_law_set d_law_set
  g_law_set : mg "_law_set" = some (.ref a_law_set)
  a_law_put_longer : Addr
  d_law_put_longer : FuncData
  F_law_put_longer : DefAt K "_law_put_longer" s_law_put_longer a_law_put_longer d_law_put_longer
  g_law_put_longer : mg "_law_put_longer" = some (.ref a_law_put_longer)
  a_law_of_items : Addr
  d_law_of_items : FuncData
  F_law_of_items : DefAt K "_law_of_items" s_law_of_items a_law_of_items d_law_of_items
  g_law_of_items : mg "_law_of_items" = some (.ref a_law_of_items)
  a_law_way : Addr
  d_law_way : FuncData
  F_law_way : DefAt K "_law_way" s_law_way a_law_way d_law_way
  g_law_way : mg "_law_way" = some (.ref a_law_way)
  a_law_right : Addr
  d_law_right : FuncData
  F_law_right : DefAt K "_law_right" s_law_right a_law_right d_law_right
  g_law_right : mg "_law_right" = some (.ref a_law_right)
  a_law : Addr
  d_law : FuncData
  F_law : DefAt K "law" s_law a_law d_law
  g_law : mg "law" = some (.ref a_law)
  z_all : mg "all" = none
  z_bool : mg "bool" = none
  z_int : mg "int" = none
  z_isinstance : mg "isinstance" = none
  z_len : mg "len" = none
  z_list : mg "list" = none
  z_max : mg "max" = none
  z_range : mg "range" = none
  z_repr : mg "repr" = none
  z_sum : mg "sum" = none
  z_tuple : mg "tuple" = none
  c_MOST_LATER : ∃ u, mg "MOST_LATER" = some u ∧ RelV (.int 100) u
section
variable {K : PySem.W.Frag} {mg : Str → Option Value}
theorem Tx.b_is_whole (T : Tx K mg) : Binds K T.d_is_whole ["value"] [] := T.F_is_whole.bindsN fun _ _ _ _ _ _ us hl => match us, hl with | [_], _ => rfl
theorem Tx.b_is_count (T : Tx K mg) : Binds K T.d_is_count ["value"] [] := T.F_is_count.bindsN fun _ _ _ _ _ _ us hl => match us, hl with | [_], _ => rfl
theorem Tx.b_is_count_to (T : Tx K mg) : Binds K T.d_is_count_to ["value", "most"] [] := T.F_is_count_to.bindsN fun _ _ _ _ _ _ us hl => match us, hl with | [_, _], _ => rfl
theorem Tx.b_is_widths (T : Tx K mg) : Binds K T.d_is_widths ["value"] [] := T.F_is_widths.bindsN fun _ _ _ _ _ _ us hl => match us, hl with | [_], _ => rfl
theorem Tx.b_are_told (T : Tx K mg) : Binds K T.d_are_told ["value"] [] := T.F_are_told.bindsN fun _ _ _ _ _ _ us hl => match us, hl with | [_], _ => rfl
theorem Tx.b_check_widths (T : Tx K mg) : Binds K T.d_check_widths ["widths"] [] := T.F_check_widths.bindsN fun _ _ _ _ _ _ us hl => match us, hl with | [_], _ => rfl
theorem Tx.b_check_wide (T : Tx K mg) : Binds K T.d_check_wide ["width"] [] := T.F_check_wide.bindsN fun _ _ _ _ _ _ us hl => match us, hl with | [_], _ => rfl
theorem Tx.b_has_width (T : Tx K mg) : Binds K T.d_has_width ["widths", "width"] [] := T.F_has_width.bindsN fun _ _ _ _ _ _ us hl => match us, hl with | [_, _], _ => rfl
theorem Tx.b_is_in (T : Tx K mg) : Binds K T.d_is_in ["widths", "width"] [] := T.F_is_in.bindsN fun _ _ _ _ _ _ us hl => match us, hl with | [_, _], _ => rfl
theorem Tx.b_made_plain (T : Tx K mg) : Binds K T.d_made_plain ["ahead", "turn"] [] := T.F_made_plain.bindsN fun _ _ _ _ _ _ us hl => match us, hl with | [_, _], _ => rfl
theorem Tx.b_shortest_turn (T : Tx K mg) : Binds K T.d_shortest_turn ["turn"] [] := T.F_shortest_turn.bindsN fun _ _ _ _ _ _ us hl => match us, hl with | [_], _ => rfl
theorem Tx.b_joined_widths (T : Tx K mg) : Binds K T.d_joined_widths ["way", "one", "other"] [] := T.F_joined_widths.bindsN fun _ _ _ _ _ _ us hl => match us, hl with | [_, _, _], _ => rfl
theorem Tx.b_are_joined (T : Tx K mg) : Binds K T.d_are_joined ["way", "one", "other"] [] := T.F_are_joined.bindsN fun _ _ _ _ _ _ us hl => match us, hl with | [_, _, _], _ => rfl
theorem Tx.b_common_lengths (T : Tx K mg) : Binds K T.d_common_lengths ["one", "other"] [] := T.F_common_lengths.bindsN fun _ _ _ _ _ _ us hl => match us, hl with | [_, _], _ => rfl
theorem Tx.b_turned_widths (T : Tx K mg) : Binds K T.d_turned_widths ["widths"] [] := T.F_turned_widths.bindsN fun _ _ _ _ _ _ us hl => match us, hl with | [_], _ => rfl
theorem Tx.b_parting_width (T : Tx K mg) : Binds K T.d_parting_width ["one", "other"] [] := T.F_parting_width.bindsN fun _ _ _ _ _ _ us hl => match us, hl with | [_, _], _ => rfl
theorem Tx.b_later_widths (T : Tx K mg) : Binds K T.d_later_widths ["widths", "many"] [] := T.F_later_widths.bindsN fun _ _ _ _ _ _ us hl => match us, hl with | [_, _], _ => rfl
theorem Tx.b_law_hash (T : Tx K mg) : Binds K T.d_law_hash ["_law_seed", "_law_index"] [] := T.F_law_hash.bindsN fun _ _ _ _ _ _ us hl => match us, hl with | [_, _], _ => rfl
theorem Tx.b_law_random (T : Tx K mg) : Binds K T.d_law_random ["_law_generator_here", "_law_bound"] [] := T.F_law_random.bindsN fun _ _ _ _ _ _ us hl => match us, hl with | [_, _], _ => rfl
theorem Tx.b_law_cell (T : Tx K mg) : Binds K T.d_law_cell ["_law_script", "_law_index"] [] := T.F_law_cell.bindsN fun _ _ _ _ _ _ us hl => match us, hl with | [_, _], _ => rfl
theorem Tx.b_law_generator (T : Tx K mg) : Binds K T.d_law_generator ["_law_script", "_law_index"] [] := T.F_law_generator.bindsN fun _ _ _ _ _ _ us hl => match us, hl with | [_, _], _ => rfl
theorem Tx.b_law_item (T : Tx K mg) : Binds K T.d_law_item ["_law_told", "_law_width_told"] [] := T.F_law_item.bindsN fun _ _ _ _ _ _ us hl => match us, hl with | [_, _], _ => rfl
theorem Tx.b_law_plain (T : Tx K mg) : Binds K T.d_law_plain ["_law_told"] [] := T.F_law_plain.bindsN fun _ _ _ _ _ _ us hl => match us, hl with | [_], _ => rfl
theorem Tx.b_law_set (T : Tx K mg) : Binds K T.d_law_set ["_law_generator_here", "_law_most"] [] := T.F_law_set.bindsN fun _ _ _ _ _ _ us hl => match us, hl with | [_, _], _ => rfl
theorem Tx.b_law_put_longer (T : Tx K mg) : Binds K T.d_law_put_longer ["_law_generator_here", "_law_told"] [] := T.F_law_put_longer.bindsN fun _ _ _ _ _ _ us hl => match us, hl with | [_, _], _ => rfl
theorem Tx.b_law_of_items (T : Tx K mg) : Binds K T.d_law_of_items ["_law_many_told", "_law_turn", "_law_tell"] [] := T.F_law_of_items.bindsN fun _ _ _ _ _ _ us hl => match us, hl with | [_, _, _], _ => rfl
theorem Tx.b_law_way (T : Tx K mg) : Binds K T.d_law_way ["_law_way_told", "_law_low", "_law_high"] [] := T.F_law_way.bindsN fun _ _ _ _ _ _ us hl => match us, hl with | [_, _, _], _ => rfl
theorem Tx.b_law_right (T : Tx K mg) : Binds K T.d_law_right ["_law_generator_here"] [] := T.F_law_right.bindsN fun _ _ _ _ _ _ us hl => match us, hl with | [_], _ => rfl
theorem Tx.b_law (T : Tx K mg) : Binds K T.d_law ["_law_script"] [] := T.F_law.bindsN fun _ _ _ _ _ _ us hl => match us, hl with | [_], _ => rfl
theorem Tx.w_joined_widths_other_one_way (T : Tx K mg) : KwB T.d_joined_widths ["way", "one", "other"] ["other", "one", "way"] (fun ws => match ws with | [x0, x1, x2] => [x2, x1, x0] | _ => []) (fun ws => match ws with | [x0, x1, x2] => [x2, x1, x0] | _ => []) := by
  obtain ⟨oc, od, dV, kV, doc, pm, an, cdv, ct, osl, e, _, _, hD, _⟩ := T.F_joined_widths.ex
  have ed : dV = .none := hD.elim And.right fun z => (z.1 rfl).elim
  subst ed
  refine ⟨fun s ws hl => ?_, fun {zs ws} hl r => ?_⟩
  · rw [e]
    match ws, hl with | [_, _, _], _ => exact .of_eq rfl
  · match zs, ws, r with | [_, _, _], [_, _, _], .cons r0 (.cons r1 (.cons r2 .nil)) => exact .cons r2 (.cons r1 (.cons r0 .nil))
theorem Tx.w_later_widths_many_widths (T : Tx K mg) : KwB T.d_later_widths ["widths", "many"] ["many", "widths"] (fun ws => match ws with | [x0, x1] => [x1, x0] | _ => []) (fun ws => match ws with | [x0, x1] => [x1, x0] | _ => []) := by
  obtain ⟨oc, od, dV, kV, doc, pm, an, cdv, ct, osl, e, _, _, hD, _⟩ := T.F_later_widths.ex
  have ed : dV = .none := hD.elim And.right fun z => (z.1 rfl).elim
  subst ed
  refine ⟨fun s ws hl => ?_, fun {zs ws} hl r => ?_⟩
  · rw [e]
    match ws, hl with | [_, _], _ => exact .of_eq rfl
  · match zs, ws, r with | [_, _], [_, _], .cons r0 (.cons r1 .nil) => exact .cons r1 (.cons r0 .nil)
theorem Tx.w_parting_width_other_one (T : Tx K mg) : KwB T.d_parting_width ["one", "other"] ["other", "one"] (fun ws => match ws with | [x0, x1] => [x1, x0] | _ => []) (fun ws => match ws with | [x0, x1] => [x1, x0] | _ => []) := by
  obtain ⟨oc, od, dV, kV, doc, pm, an, cdv, ct, osl, e, _, _, hD, _⟩ := T.F_parting_width.ex
  have ed : dV = .none := hD.elim And.right fun z => (z.1 rfl).elim
  subst ed
  refine ⟨fun s ws hl => ?_, fun {zs ws} hl r => ?_⟩
  · rw [e]
    match ws, hl with | [_, _], _ => exact .of_eq rfl
  · match zs, ws, r with | [_, _], [_, _], .cons r0 (.cons r1 .nil) => exact .cons r1 (.cons r0 .nil)
theorem Tx.w_turned_widths_widths (T : Tx K mg) : KwB T.d_turned_widths ["widths"] ["widths"] (fun ws => match ws with | [x0] => [x0] | _ => []) (fun ws => match ws with | [x0] => [x0] | _ => []) := by
  obtain ⟨oc, od, dV, kV, doc, pm, an, cdv, ct, osl, e, _, _, hD, _⟩ := T.F_turned_widths.ex
  have ed : dV = .none := hD.elim And.right fun z => (z.1 rfl).elim
  subst ed
  refine ⟨fun s ws hl => ?_, fun {zs ws} hl r => ?_⟩
  · rw [e]
    match ws, hl with | [_], _ => exact .of_eq rfl
  · match zs, ws, r with | [_], [_], .cons r0 .nil => exact .cons r0 .nil
end

/-! ### the law's own random numbers -/
section
variable {P : Program} {w : World} {K : PySem.W.Frag} {mg : Str → Option Value} {base : Heap}
/-- the seed is a rest by 2147483647, the index not far -/
def spHash : Sp := fun vs H Q _ => ∃ a b : Int, vs = [.int a, .int b] ∧ 0 ≤ a ∧ a < 2147483648 ∧ 0 ≤ b ∧ b < 4294967296 ∧ ∀ r : Int, 0 ≤ r → r < 2147483647 → Q (.int r) H
theorem nlt {i : Int} {n : Nat} (h0 : 0 ≤ i) (h : i < 2 ^ n) : i.natAbs < 2 ^ n := by
  have e : ((2 ^ n : Nat) : Int) = (2 : Int) ^ n := by rw [Int.natCast_pow]; rfl
  omega
theorem ok_law_hash (T : Tx K mg) : FnG P w K mg base CX0 1 T.a_law_hash T.d_law_hash ["_law_seed", "_law_index"] spHash := by
  refine bodyG0 T.F_law_hash sc_law_hash (fun vs H Q E h => ?_) (fun cdv A outer s H vs Q E gd hr h => ?_)
  · obtain ⟨a, b, rfl, _⟩ := h; rfl
  · obtain ⟨a, b, rfl, a0, a1, b0, b1, q⟩ := h
    refine ⟨_, (pss_cons (ps_set (i := 2) sc_law_hash.nd rfl (Or.inl rfl) (pe_op op_mod (pe_callTy call_int1 (by rfl) T.z_int (by decide +kernel) (pa_cons (pe_op op_add (pe_op op_add (pe_op op_add (pe_op op_mulX (pv 0) pe_int) (pe_op op_mulX (pe_op op_mulX pe_int (pv 1)) (pv 1))) (pe_op op_mulX pe_int (pv 1))) pe_int) pa_nil)) pe_int))
      (pss_cons (ps_set (i := 2) sc_law_hash.nd rfl (Or.inl rfl) (pe_op op_mod (pe_callTy call_int1 (by rfl) T.z_int (by decide +kernel) (pa_cons (pe_op op_add (pe_op op_add (pe_op op_mulX (pv 2) (pv 2)) (pe_op op_mulX pe_int (pv 1))) pe_int) pa_nil)) pe_int))
      (pss_one (ps_ret (pe_op op_mod (pe_callTy call_int1 (by rfl) T.z_int (by decide +kernel) (pa_cons (pe_op op_mulX (pv 2) pe_int) pa_nil)) pe_int))))), ?_⟩
    have ha : a.natAbs < 2 ^ 31 := nlt a0 a1
    have hb : b.natAbs < 2 ^ 32 := nlt b0 b1
    refine ⟨_, rfl, _, _, rfl, rfl, mulx_ok ha (b := 31) (by decide) (by decide), _, rfl, _, _, rfl, rfl, mulx_ok (a := 31) (by decide) hb (by decide), _, rfl, _, _, rfl, rfl, mulx_ok (wide_lt (a := 31) (by decide) hb) hb (by decide), _, _, rfl, rfl, _, rfl, _, _, rfl, rfl, mulx_ok (a := 31) (by decide) hb (by decide), _, _, rfl, rfl, _, _, rfl, rfl, .inl ⟨_, rfl, _, _, rfl, rfl, (by decide : (0 : Int) < 2147483629), ?_⟩⟩
    dsimp only
    generalize (a * 1140671 + 27644437 * b * b + 131 * b + 19) = x1
    have x0 := Int.emod_nonneg x1 (by decide : (2147483629 : Int) ≠ 0)
    have x2 := Int.emod_lt_of_pos x1 (by decide : (0 : Int) < 2147483629)
    generalize x1 % 2147483629 = x at x0 x2
    have hx : x.natAbs < 2 ^ 31 := nlt x0 (by omega)
    refine ⟨_, rfl, _, rfl, _, _, rfl, rfl, mulx_ok hx hx (by decide), _, rfl, _, _, rfl, rfl, mulx_ok (a := 31) (by decide) hb (by decide), _, _, rfl, rfl, _, _, rfl, rfl, .inl ⟨_, rfl, _, _, rfl, rfl, (by decide : (0 : Int) < 2147483587), ?_⟩⟩
    dsimp only
    generalize (x * x + 62089 * b + 32416187) = y1
    have y0 := Int.emod_nonneg y1 (by decide : (2147483587 : Int) ≠ 0)
    have y2 := Int.emod_lt_of_pos y1 (by decide : (0 : Int) < 2147483587)
    generalize y1 % 2147483587 = y at y0 y2
    have hy : y.natAbs < 2 ^ 31 := nlt y0 (by omega)
    refine ⟨_, rfl, _, _, rfl, rfl, mulx_ok hy (b := 31) (by decide) (by decide), .inl ⟨_, rfl, _, _, rfl, rfl, (by decide : (0 : Int) < 2147483647), ?_⟩⟩
    exact q _ (Int.emod_nonneg _ (by decide)) (Int.emod_lt_of_pos _ (by decide))

/-- the generator: what is left of a great seed, the seed's rest, the index -/
structure GenOk (s t c m : Int) : Prop where
  s0 : 0 ≤ s
  s1 : s < 2 ^ 2000
  t0 : 0 ≤ t
  t1 : t < 2147483648
  c0 : 0 ≤ c
  c1 : c ≤ m
def genL (s t c : Int) : HO := .lst [.int s, .int t, .int c]
/-- a draw below a bound: the generator's list at a is another one; the index grows by a hundred at most -/
def spRandom : Sp := fun vs H Q _ => ∃ (a : Addr) (b s t c m : Int), vs = [.ref a, .int b] ∧ H a = some (genL s t c) ∧ GenOk s t c m ∧ m + 100 < 4294967296 ∧ 0 < b ∧ b < 2 ^ 2000 ∧
  ∀ (r s' c' : Int), 0 ≤ r → r < b → GenOk s' t c' (m + 100) → Q (.int r) (upd H a (genL s' t c'))
theorem bits_le_of {b : Int} {n : Nat} (h0 : 0 ≤ b) (h : b < 2 ^ n) : Builtin.Int.intBits b ≤ n := PyProof.Rows.intBits_le (nlt h0 h)
theorem ok_law_random (T : Tx K mg) : FnG P w K mg base CX0 2 T.a_law_random T.d_law_random ["_law_generator_here", "_law_bound"] spRandom := by
  have G_law_hash := ok_law_hash (P := P) (w := w) (base := base) T
  refine bodyG0 T.F_law_random sc_law_random (fun vs H Q E h => ?_) (fun cdv A outer s H vs Q E gd hr h => ?_)
  · obtain ⟨a, b, s, t, c, m, rfl, _⟩ := h; rfl
  · obtain ⟨a, b, s, t, c, m, rfl, hg, ok, hm, b0, b1, q⟩ := h
    obtain ⟨s0, s1, t0, t1, c0, c1⟩ := ok
    have sq : SqL K H a [.int s, .int t, .int c] := .inl (.inl hg)
    refine ⟨_, (pss_cons (ps_if (pt_cmpR op_gt (pe_ix (ix_listK (K := K) rfl) (pv 0) pe_int (fun _ _ => rfl)) pe_int (nomark _)) (pss_cons (ps_set (i := 2) sc_law_random.nd rfl (Or.inl rfl) (pe_op op_mod (pe_callTy call_int1 (by rfl) T.z_int (by decide +kernel) (pa_cons (pe_ix (ix_listK (K := K) rfl) (pv 0) pe_int (fun _ _ => rfl)) pa_nil)) (pv 1)))
      (pss_cons (ps_asg (pe_op op_fdivW (pe_ix (ix_listK (K := K) rfl) (pv 0) pe_int (fun _ _ => rfl)) (pv 1)) (pg_sub (pv 0) pe_int set_list))
      (pss_one (ps_ret (pv 2))))) pss_nil)
      (pss_cons (ps_set (i := 2) sc_law_random.nd rfl (Or.inl rfl) pe_int)
      (pss_cons (ps_for PassesOwn.never rfl (pi_range1 (by rfl) T.z_range (pa_cons (pe_op op_add pe_int (pe_op op_fdivW (pe_bits (pv 1)) pe_int)) pa_nil)) (pg_name (i := 3) sc_law_random.nd rfl (Or.inl rfl)) (pss_cons (ps_asg (pe_op op_add (pe_ix (ix_listK (K := K) rfl) (pv 0) pe_int (fun _ _ => rfl)) pe_int) (pg_sub (pv 0) pe_int set_list))
      (pss_one (ps_set (i := 2) sc_law_random.nd rfl (Or.inl rfl) (pe_op op_add (pe_op op_mulX (pv 2) pe_int) (pe_g G_law_hash gd (hr.mono (by decide)) (by rfl) T.g_law_hash T.F_law_hash.kp T.b_law_hash .nil pass0 (pa_cons (pe_ix (ix_listK (K := K) rfl) (pv 0) pe_int (fun _ _ => rfl)) (pa_cons (pe_ix (ix_listK (K := K) rfl) (pv 0) pe_int (fun _ _ => rfl)) pa_nil))))))))
      (pss_one (ps_ret (pe_op op_mod (pe_callTy call_int1 (by rfl) T.z_int (by decide +kernel) (pa_cons (pv 2) pa_nil)) (pv 1))))))), ?_⟩
    refine ⟨_, rfl, _, _, _, _, rfl, rfl, sq, atI_nat (j := 0) rfl, _, _, rfl, rfl, _, rfl, ?_⟩
    by_cases hs : 0 < s
    · rw [decide_eq_true hs]
      refine iteT ⟨_, rfl, _, _, _, _, rfl, rfl, sq, atI_nat (j := 0) rfl, .inl ⟨_, rfl, _, rfl, _, _, rfl, rfl, b0, ?_⟩⟩
      refine ⟨_, rfl, _, _, _, _, rfl, rfl, sq, atI_nat (j := 0) rfl, _, rfl, _, _, rfl, rfl, wide_div b0 (nlt (Int.le_of_lt b0) b1) (by decide) (by decide), ?_⟩
      refine ⟨_, rfl, a, _, _, 0, rfl, rfl, hg, rfl, ?_⟩
      refine ⟨_, rfl, ?_⟩
      have d0 := Int.ediv_nonneg s0 (Int.le_of_lt b0)
      have d1 : s / b ≤ s := Int.ediv_le_self b s0
      exact q _ _ _ (Int.emod_nonneg _ (by omega)) (Int.emod_lt_of_pos _ b0) ⟨d0, by omega, t0, t1, c0, by omega⟩
    · rw [decide_eq_false hs]
      refine iteF ?_
      have hbits := bits_le_of (Int.le_of_lt b0) b1
      have hq : ((1 : Int) + (Builtin.Int.intBits b : Nat) / 30) = ((1 + Builtin.Int.intBits b / 30 : Nat) : Int) := by rw [Int.natCast_add, Int.natCast_ediv]; rfl
      refine ⟨_, rfl, b, rfl, _, _, rfl, rfl, wide_div (b := 5) (by decide) (by decide) (by decide) (by decide), _, _, rfl, rfl, ((1 + Builtin.Int.intBits b / 30 : Nat) : Int), by rw [← hq], by omega, by omega, ?_⟩
      refine for_range (n := 1 + Builtin.Int.intBits b / 30) (fun i σ H' => ∃ (d : Int) (y : Option V), σ = [some (.ref a), some (.int b), some (.int d), y] ∧ H' = upd H a (genL s t (c + i)) ∧ 0 ≤ d ∧ d < 2 ^ (31 * i)) ⟨0, none, rfl, ?_, by decide, by decide⟩ ?_ ?_
      · rw [show c + ((0 : Nat) : Int) = c by omega]
        funext x
        unfold upd
        by_cases hx : x = a
        · rw [if_pos hx, hx, hg]
        · rw [if_neg hx]
      · rintro i σ H' hi ⟨d, y, rfl, rfl, d0, d1⟩
        have up : (upd H a (genL s t (c + i))) a = some (genL s t (c + i)) := upd_same
        have sq1 : SqL K (upd H a (genL s t (c + i))) a [.int s, .int t, .int (c + i)] := .inl (.inl up)
        refine ⟨_, rfl, _, _, _, _, rfl, rfl, sq1, atI_nat (j := 2) rfl, _, _, rfl, rfl, _, rfl, a, _, _, 2, rfl, rfl, up, rfl, ?_⟩
        have up2 : (upd (upd H a (genL s t (c + i))) a (.lst ([V.int s, .int t, .int (c + i)].set 2 (.int (c + i + 1))))) a = some (genL s t (c + i + 1)) := upd_same
        have sq2 : SqL K (upd (upd H a (genL s t (c + i))) a (.lst ([V.int s, .int t, .int (c + i)].set 2 (.int (c + i + 1))))) a [.int s, .int t, .int (c + i + 1)] := .inl (.inl up2)
        refine ⟨_, rfl, _, _, rfl, rfl, mulx_ok (nlt d0 d1) (b := 31) (by decide) (by omega), ?_⟩
        refine ⟨_, rfl, _, _, _, _, rfl, rfl, sq2, atI_nat (j := 1) rfl, _, rfl, _, _, _, _, rfl, rfl, sq2, atI_nat (j := 2) rfl, _, _, rfl, t0, t1, by omega, by omega, fun r r0 r1 => ⟨_, _, rfl, rfl, ?_⟩⟩
        refine ⟨d * 2147483587 + r, _, rfl, ?_, by omega, ?_⟩
        · rw [show c + ((i + 1 : Nat) : Int) = c + i + 1 by omega]
          exact upd_upd
        · have e : (2 : Int) ^ (31 * (i + 1)) = 2 ^ (31 * i) * 2147483648 := by
            rw [Nat.mul_add, Int.pow_add]; rfl
          have p : (1 : Int) ≤ 2 ^ (31 * i) := Int.pow_pos (by decide)
          rw [e]
          generalize (2 : Int) ^ (31 * i) = B at d1 p
          omega
      · rintro σ H' ⟨d, y, rfl, rfl, d0, d1⟩
        refine ⟨_, rfl, .inl ⟨_, rfl, _, rfl, _, _, rfl, rfl, b0, ?_⟩⟩
        exact q _ _ _ (Int.emod_nonneg _ (by omega)) (Int.emod_lt_of_pos _ b0) ⟨s0, s1, t0, t1, by omega, by omega⟩

theorem same_new {H : Hp} {p : Addr} {o : HO} (h : H p = none) : Same H (upd H p o) := fun b x e => by
  rw [upd_ne (ne_of_none e h)]
  exact e
theorem cut_first {α : Type} (f : α → V) (xs : List α) : cutV (xs.map f) none (some 1) = (xs.take 1).map f := by
  unfold cutV
  rw [HT.sIx_none, show HT.sIx (xs.map f).length (xs.map f).length (some 1) = min 1 (xs.map f).length from HT.sIx_nat _ _ 1]
  cases xs with
  | nil => rfl
  | cons x r =>
    rw [show min 1 ((x :: r).map f).length = 1 by rw [List.length_map, List.length_cons]; omega]
    rfl
def spCell (K : PySem.W.Frag) : Sp := fun vs H Q _ => ∃ (a : Addr) (ns : List Int) (j : Nat), vs = [.ref a, .int j] ∧ SqL K H a (ns.map V.int) ∧ ∀ (r : Int) (H' : Hp), Same H H' → Q (.int r) H'
theorem ok_law_cell (T : Tx K mg) : FnG P w K mg base CX0 1 T.a_law_cell T.d_law_cell ["_law_script", "_law_index"] (spCell K) := by
  refine bodyG0 T.F_law_cell sc_law_cell (fun vs H Q E h => ?_) (fun cdv A outer s H vs Q E gd hr h => ?_)
  · obtain ⟨a, ns, j, rfl, _⟩ := h; rfl
  · obtain ⟨a, ns, j, rfl, hS, q⟩ := h
    refine ⟨_, (pss_cons (ps_if (pt_cmpR op_lt (pv 1) (pe_callB (call_lenK (K := K) rfl) (by rfl) T.z_len (by decide +kernel) (pa_cons (pv 0) pa_nil)) (nomark _)) (pss_one (ps_ret (pe_ix (ix_listK (K := K) rfl) (pv 0) (pv 1) (fun _ _ => rfl)))) pss_nil)
      (pss_one (ps_ret (pe_op op_mod (pe_callB (cr_sumK (K := K) rfl rfl) (by rfl) T.z_sum (by decide +kernel) (pa_cons (pe_slice (sl_listK (K := K) rfl) (pv 0) po_none (po_some pe_int)) pa_nil)) pe_int)))), ?_⟩
    refine ⟨_, rfl, _, rfl, a, _, rfl, .inl hS, _, _, rfl, rfl, _, rfl, ?_⟩
    by_cases hj : ((j : Nat) : Int) < ((ns.map V.int).length : Nat)
    · rw [decide_eq_true hj]
      have hj2 : j < ns.length := by rw [List.length_map] at hj; omega
      refine iteT ⟨_, rfl, _, rfl, _, _, _, _, rfl, rfl, hS, atI_nat (j := j) (v := .int (ns[j])) ?_, q _ _ (Same.refl H)⟩
      rw [List.getElem?_map, List.getElem?_eq_getElem hj2]
      rfl
    · rw [decide_eq_false hj]
      refine iteF ⟨_, rfl, 1, rfl, a, _, rfl, hS, fun p hp => ?_⟩
      refine ⟨p, ns.take 1, rfl, .inl (.inl ?_), _, _, rfl, rfl, (by decide : (0 : Int) < 1000003), q _ _ (same_new hp)⟩
      rw [upd_same, cut_first]
def spGenerator (K : PySem.W.Frag) : Sp := fun vs H Q _ => ∃ (a : Addr) (ns : List Int) (j : Nat), vs = [.ref a, .int j] ∧ j ≤ 1000 ∧ SqL K H a (ns.map V.int) ∧
  ∀ (g : Addr) (H' : Hp) (s t c : Int), Same H H' → H g = none → H' g = some (genL s t c) → GenOk s t c (1000 * j) → Q (.ref g) H'
theorem ok_law_generator (T : Tx K mg) : FnG P w K mg base CX0 2 T.a_law_generator T.d_law_generator ["_law_script", "_law_index"] (spGenerator K) := by
  have G_law_cell := ok_law_cell (P := P) (w := w) (base := base) T
  refine bodyG0 T.F_law_generator sc_law_generator (fun vs H Q E h => ?_) (fun cdv A outer s H vs Q E gd hr h => ?_)
  · obtain ⟨a, ns, j, rfl, _⟩ := h; rfl
  · obtain ⟨a, ns, j, rfl, hj, hS, q⟩ := h
    refine ⟨_, (pss_cons (ps_set (i := 2) sc_law_generator.nd rfl (Or.inl rfl) (pe_g G_law_cell gd (hr.mono (by decide)) (by rfl) T.g_law_cell T.F_law_cell.kp T.b_law_cell .nil pass0 (pa_cons (pv 0) (pa_cons (pv 1) pa_nil))))
      (pss_one (ps_ret (pe_lst (pa_cons (pe_op op_mod (pe_callTy call_int1 (by rfl) T.z_int (by decide +kernel) (pa_cons (pe_callB (call_max2 rfl) (by rfl) T.z_max (by decide +kernel) (pa_cons (pe_op op_sub (pv 2) (pe_op op_powW pe_int pe_int)) (pa_cons pe_int pa_nil))) pa_nil)) (pe_op op_powW (pe_op op_powW pe_int pe_int) pe_int)) (pa_cons (pe_op op_mod (pe_callTy call_int1 (by rfl) T.z_int (by decide +kernel) (pa_cons (pv 2) pa_nil)) pe_int) (pa_cons (pe_op op_mulX pe_int (pv 1)) pa_nil))))))), ?_⟩
    refine ⟨_, rfl, _, rfl, a, ns, j, rfl, hS, fun r H' sm => ?_⟩
    have e10 : ((10 : Int) ^ 60).natAbs < 2 ^ 200 := by decide +kernel
    refine ⟨_, rfl, _, _, rfl, rfl, powW_ok (n := 4) (j := 18) (by decide) (by decide), _, _, rfl, rfl, _, _, rfl, .inl ⟨_, rfl, ?_⟩⟩
    refine ⟨_, _, rfl, rfl, powW_ok (n := 4) (j := 60) (by decide) (by decide), _, _, rfl, rfl, powW_ok (n := 200) (j := 10) e10 (by decide), _, _, rfl, rfl, (by decide +kernel : (0 : Int) < (10 ^ 60) ^ 10), ?_⟩
    refine ⟨_, rfl, .inl ⟨_, rfl, _, _, rfl, rfl, (by decide : (0 : Int) < 2147483647), ?_⟩⟩
    refine ⟨_, rfl, _, _, rfl, rfl, mulx_ok (a := 10) (b := 10) (by decide) (by omega) (by decide), by show 3 ≤ sizeLine; rw [sizeLine_eq]; decide, fun g hg => ?_⟩
    have big : ((10 : Int) ^ 60) ^ 10 < 2 ^ 2000 := by decide +kernel
    have m1 := Int.emod_lt_of_pos (if r - 10 ^ 18 < 0 then 0 else r - 10 ^ 18) (by decide +kernel : (0 : Int) < (10 ^ 60) ^ 10)
    refine q g _ _ _ _ (sm.trans (same_new hg)) (sm.free hg) upd_same ⟨Int.emod_nonneg _ (by decide +kernel), Int.lt_trans (Int.emod_lt_of_pos _ (by decide +kernel)) big, Int.emod_nonneg _ (by decide), Int.lt_trans (Int.emod_lt_of_pos _ (by decide)) (by decide), by omega, by omega⟩
end

/-- the generator stands at a, its index is at most m -/
def Gn (a : Addr) (t m : Int) (H : Hp) : Prop := ∃ s c : Int, H a = some (genL s t c) ∧ GenOk s t c m
theorem GenOk.up {s t c m m' : Int} (o : GenOk s t c m) (h : m ≤ m') : GenOk s t c m' := ⟨o.s0, o.s1, o.t0, o.t1, o.c0, Int.le_trans o.c1 h⟩
theorem Gn.up {a : Addr} {t m m' : Int} {H : Hp} (g : Gn a t m H) (h : m ≤ m') : Gn a t m' H := by
  obtain ⟨s, c, e, o⟩ := g
  exact ⟨s, c, e, o.up h⟩
theorem Gn.keep {a p : Addr} {t m : Int} {H : Hp} {o : HO} (g : Gn a t m H) (h : p ≠ a) : Gn a t m (upd H p o) := by
  obtain ⟨s, c, e, k⟩ := g
  exact ⟨s, c, by rw [upd_ne h.symm]; exact e, k⟩
theorem Gn.same {a : Addr} {t m : Int} {H H' : Hp} (g : Gn a t m H) (s : Same H H') : Gn a t m H' := by
  obtain ⟨x, c, e, k⟩ := g
  exact ⟨x, c, s _ _ e, k⟩
theorem Gn.ne {a p : Addr} {t m : Int} {H : Hp} (g : Gn a t m H) (h : H p = none) : p ≠ a := fun e => by
  obtain ⟨s, c, q, _⟩ := g
  rw [e, q] at h
  cases h
theorem off_mono {D : Addr} {H H' : Hp} (e : Same H H') : Same (off D H) (off D H') := fun b o h => by
  obtain ⟨n, h⟩ := off_at h
  exact off_of n (e b o h)
theorem off_upd {D : Addr} {H : Hp} {o : HO} : off D (upd H D o) = off D H := by
  funext b
  unfold off
  by_cases h : b = D
  · rw [if_pos h, if_pos h]
  · rw [if_neg h, if_neg h, upd_ne h]
theorem SameX.new {a p : Addr} {H H' : Hp} {o : HO} (e : SameX a H H') (h : H p = none) : SameX a H (upd H' p o) := fun b x n hb => by
  rw [upd_ne (ne_of_none hb h)]
  exact e b x n hb
theorem SameX.free {a p : Addr} {t m : Int} {H H' : Hp} (e : SameX a H H') (g : Gn a t m H') (h : H' p = none) : H p = none := by
  cases q : H p with
  | none => rfl
  | some o =>
    have := e p o (g.ne h) q
    rw [h] at this
    cases this
section
variable {P : Program} {w : World} {K : PySem.W.Frag} {mg : Str → Option Value} {base : Heap}
def spRnd : Sp := fun vs H Q _ => ∃ (a : Addr) (b : Nat) (t m : Int), vs = [.ref a, .int b] ∧ Gn a t m H ∧ m + 100 < 4294967296 ∧ 0 < b ∧ b < 2 ^ 2000 ∧
  ∀ (r : Nat) (H' : Hp), r < b → SameX a H H' → Gn a t (m + 100) H' → Q (.int r) H'
theorem ok_rnd (T : Tx K mg) : FnG P w K mg base CX0 2 T.a_law_random T.d_law_random ["_law_generator_here", "_law_bound"] spRnd := by
  refine (ok_law_random T).weak fun vs H Q E h => ?_
  obtain ⟨a, b, t, m, rfl, ⟨s, c, e, ok⟩, hm, b0, b1, q⟩ := h
  have b2 : (b : Int) < 2 ^ 2000 := by
    have : ((2 ^ 2000 : Nat) : Int) = (2 : Int) ^ 2000 := by rw [Int.natCast_pow]; rfl
    rw [← this]
    exact Int.ofNat_lt.mpr b1
  refine ⟨a, b, s, t, c, m, rfl, e, ok, hm, by omega, b2, fun r s' c' r0 r1 ok' => ?_⟩
  have q := q r.toNat (upd H a (genL s' t c')) (by omega) SameX.upd ⟨s', c', upd_same, ok'⟩
  rw [Int.toNat_of_nonneg r0] at q
  exact q
end

end K41

set_option Elab.async false
set_option linter.all false
set_option maxRecDepth 100000
set_option maxHeartbeats 4000000
namespace K41
open PySem PySem.Spec PyProof.Rows L2 Hw
section
variable {P : Program} {w : World} {K : PySem.W.Frag} {mg : Str → Option Value} {base : Heap}

def spWhole : Sp := fun vs H Q _ => ∃ i : Int, vs = [.int i] ∧ Q (.bl true) H
theorem ok_is_whole (T : Tx K mg) : FnG P w K mg base CX0 1 T.a_is_whole T.d_is_whole ["value"] spWhole := by
  refine bodyG0 T.F_is_whole sc_is_whole (fun vs H Q E h => ?_) (fun cdv A outer s H vs Q E gd hr h => ?_)
  · obtain ⟨i, rfl, _⟩ := h; rfl
  · obtain ⟨i, rfl, q⟩ := h
    refine ⟨_, (pss_one (ps_ret (pe_and (pe_callB call_isD (by rfl) T.z_isinstance (by decide +kernel) (pa_cons (pv 0) (pa_cons (pe_bltn (v := .ty "int") (by rfl) T.z_int (by decide +kernel) rfl) pa_nil))) (pe_one (pe_not (pe_callB call_isD (by rfl) T.z_isinstance (by decide +kernel) (pa_cons (pv 0) (pa_cons (pe_bltn (v := .ty "bool") (by rfl) T.z_bool (by decide +kernel) rfl) pa_nil)))))))), ?_⟩
    refine ⟨_, rfl, _, _, _, _, rfl, .int i, kit_int _, _, rfl, iteT ?_⟩
    exact ⟨_, rfl, _, _, _, _, rfl, .int i, kit_bool _, _, rfl, q⟩

def spCount : Sp := fun vs H Q _ => ∃ i : Nat, vs = [.int i] ∧ Q (.bl true) H
theorem ok_is_count (T : Tx K mg) : FnG P w K mg base CX0 2 T.a_is_count T.d_is_count ["value"] spCount := by
  have G_is_whole := ok_is_whole (P := P) (w := w) (base := base) T
  refine bodyG0 T.F_is_count sc_is_count (fun vs H Q E h => ?_) (fun cdv A outer s H vs Q E gd hr h => ?_)
  · obtain ⟨i, rfl, _⟩ := h; rfl
  · obtain ⟨i, rfl, q⟩ := h
    refine ⟨_, (pss_one (ps_ret (pe_and (pe_g G_is_whole gd (hr.mono (by decide)) (by rfl) T.g_is_whole T.F_is_whole.kp T.b_is_whole .nil pass0 (pa_cons (pv 0) pa_nil)) (pe_one (pe_cmpR op_ge (pv 0) pe_int (nomark _)))))), ?_⟩
    refine ⟨_, rfl, i, rfl, _, rfl, iteT ?_⟩
    refine ⟨_, rfl, _, _, rfl, rfl, ?_⟩
    have e : decide ((0 : Int) ≤ (i : Int)) = true := decide_eq_true (by omega)
    rw [← e] at q
    exact q

def toldB : PyData → Bool
  | .list ds => ds.all isBool
  | _ => false
def spTold : Sp := fun vs H Q _ => ∃ (x : V) (d : PyData), vs = [x] ∧ Dt H x d ∧ (∀ ds, d = .list ds → ds.length ≤ 300000) ∧ ∀ H', Same H H' → Q (.bl (toldB d)) H'
theorem ok_are_told (T : Tx K mg) : FnG P w K mg base CX0 1 T.a_are_told T.d_are_told ["value"] spTold := by
  refine bodyG0 T.F_are_told sc_are_told (fun vs H Q E h => ?_) (fun cdv A outer s H vs Q E gd hr h => ?_)
  · obtain ⟨x, d, rfl, _⟩ := h; rfl
  · obtain ⟨x, d, rfl, hd, hz, q⟩ := h
    refine ⟨_, (pss_one (ps_ret (pe_and (pe_callB call_isD (by rfl) T.z_isinstance (by decide +kernel) (pa_cons (pv 0) (pa_cons (pe_bltn (v := .ty "list") (by rfl) T.z_list (by decide +kernel) rfl) pa_nil))) (pe_one (pe_callB (cr_allK (K := K) rfl rfl) (by rfl) T.z_all (by decide +kernel) (pa_cons (pe_lc (own := [("told", 1)]) (g := gName 1) (tt := tYes) rfl sc_are_told.nd (pi_list (pv 0)) (blkOk_by (N := ["value", "told"]) (sc := defScope s_are_told) (by decide +kernel)) (fun _ _ _ _ _ => (pg_name (i := 1) sc_are_told.nd rfl (Or.inl rfl))) (fun _ _ _ _ _ => pts_nil) (fun _ _ _ _ _ => (pe_callB call_isD (by rfl) T.z_isinstance (by decide +kernel) (pa_cons (pv 1) (pa_cons (pe_bltn (v := .ty "bool") (by rfl) T.z_bool (by decide +kernel) rfl) pa_nil))))) pa_nil)))))), ?_⟩
    refine ⟨_, rfl, x, d, _, _, rfl, hd, kit_list d, _, rfl, ?_⟩
    cases hd with
    | @lst a xs ds ha hs =>
      have hz := hz _ rfl
      have sq : SqL K H a xs := .inl (.inl ha)
      have hlen : xs.length = ds.length := hs.len
      refine iteT ⟨_, rfl, a, rfl, ⟨_, sq⟩, fun D hD => ?_⟩
      refine lc_list (K := K) (a := a) (xs := xs) (fun i H' => Same H H' ∧ H' D = some (.lst ((List.range i).map fun i => V.bl (atF ds isBool i)))) ⟨same_new' hD, upd_same⟩ (fun i H' _ e => e.1.seq sq) ?_ ?_
      · rintro i y H' hi ⟨s1, e1⟩
        obtain ⟨c, hc, hy⟩ := hs.get i y hi
        have il : i < xs.length := (List.getElem?_eq_some_iff.mp hi).1
        refine ⟨rfl, yes_if ?_⟩
        refine ⟨_, rfl, y, c, _, _, rfl, hy.to s1, kit_bool c, ?_⟩
        rw [← atF_at (g := isBool) hc]
        exact lcS (f := fun i => V.bl (atF ds isBool i)) hD s1 e1 (by omega)
      · rintro H' ⟨s1, e1⟩
        refine ⟨D, (List.range xs.length).map (atF ds isBool), rfl, .inl (.inl ?_), ?_⟩
        · rw [e1, List.map_map]
          rfl
        rw [hlen, all_atF]
        exact q H' s1
    | _ => exact iteF (q H (Same.refl H))

def someB : PyData → Bool
  | .list ds => decide (0 < ds.length)
  | _ => false
def widB : PyData → Bool
  | .tuple [a, b] => toldB a && (toldB b && someB b)
  | _ => false
theorem widB_len {ds : List PyData} (h : ¬ (ds.length : Int) = 2) : widB (.tuple ds) = false := by
  match ds, h with
  | [], _ => rfl
  | [_], _ => rfl
  | [_, _], h => exact absurd rfl h
  | _ :: _ :: _ :: _, _ => rfl
/-- lists within are short -/
def Few : PyData → Prop
  | .tuple ds => ∀ d ∈ ds, ∀ es, d = .list es → es.length ≤ 300000
  | _ => True
def spIsW : Sp := fun vs H Q _ => ∃ (x : V) (d : PyData), vs = [x] ∧ Dt H x d ∧ Few d ∧ ∀ H', Same H H' → Q (.bl (widB d)) H'
theorem ok_is_widths (T : Tx K mg) : FnG P w K mg base CX0 2 T.a_is_widths T.d_is_widths ["value"] spIsW := by
  have G_are_told := ok_are_told (P := P) (w := w) (base := base) T
  refine bodyG0 T.F_is_widths sc_is_widths (fun vs H Q E h => ?_) (fun cdv A outer s H vs Q E gd hr h => ?_)
  · obtain ⟨x, d, rfl, _⟩ := h; rfl
  · obtain ⟨x, d, rfl, hd, few, q⟩ := h
    refine ⟨_, (pss_cons (ps_if (PW.pt (pw_or (pt_not (pt_val (pe_callB call_isD (by rfl) T.z_isinstance (by decide +kernel) (pa_cons (pv 0) (pa_cons (pe_bltn (v := .ty "tuple") (by rfl) T.z_tuple (by decide +kernel) rfl) pa_nil))))) (pw_or1 (pt_cmpR op_ne (pe_callB (call_lenK (K := K) rfl) (by rfl) T.z_len (by decide +kernel) (pa_cons (pv 0) pa_nil)) pe_int (nomark _))))) (pss_one (ps_ret pe_bl)) pss_nil)
      (pss_one (ps_ret (pe_and (pe_g G_are_told gd (hr.mono (by decide)) (by rfl) T.g_are_told T.F_are_told.kp T.b_are_told .nil pass0 (pa_cons (pe_ix (ix_tupK (K := K) rfl) (pv 0) pe_int (fun _ _ => rfl)) pa_nil)) (pe_and (pe_g G_are_told gd (hr.mono (by decide)) (by rfl) T.g_are_told T.F_are_told.kp T.b_are_told .nil pass0 (pa_cons (pe_ix (ix_tupK (K := K) rfl) (pv 0) pe_int (fun _ _ => rfl)) pa_nil)) (pe_one (pe_cmpR op_gt (pe_callB (call_lenK (K := K) rfl) (by rfl) T.z_len (by decide +kernel) (pa_cons (pe_ix (ix_tupK (K := K) rfl) (pv 0) pe_int (fun _ _ => rfl)) pa_nil)) pe_int (nomark _)))))))), ?_⟩
    refine ⟨_, rfl, x, d, _, _, rfl, hd, kit_tuple d, _, rfl, ?_⟩
    cases hd with
    | @tup a xs ds ha hs =>
      have sq : SqT K H a xs := .inl (.inl ha)
      refine iteF ⟨_, rfl, a, xs, rfl, .inr sq, rfl, _, rfl, ?_⟩
      rw [vi, hs.len]
      by_cases h2 : (ds.length : Int) = 2
      · rw [decide_eq_true h2]
        refine iteF ?_
        obtain ⟨m, n, rfl⟩ : ∃ m n, ds = [m, n] := by
          match ds, h2 with
          | [m, n], _ => exact ⟨m, n, rfl⟩
          | [], h => simp at h
          | [_], h => simp at h
          | _ :: _ :: _ :: r, h => simp only [List.length_cons] at h; omega
        cases hs with
        | @cons vm _ _ _ hm hs =>
        cases hs with
        | @cons vn _ _ _ hn hs =>
        cases hs with
        | nil =>
        have q : ∀ H', Same H H' → Q (.bl (toldB m && (toldB n && someB n))) H' := q
        refine ⟨_, rfl, a, _, 0, _, rfl, rfl, sq, rfl, vm, m, rfl, hm, few m (by simp), fun H1 e1 => ?_⟩
        refine ⟨_, rfl, ?_⟩
        cases hb1 : toldB m with
        | false =>
          rw [hb1] at q
          exact iteF (q H1 e1)
        | true =>
          rw [hb1] at q
          refine iteT ⟨_, rfl, a, _, 1, _, rfl, rfl, (.inl (.inl (e1 _ _ ha))), rfl, vn, n, rfl, hn.to e1, few n (by simp), fun H2 e2 => ?_⟩
          have e2 := e1.trans e2
          refine ⟨_, rfl, ?_⟩
          cases hb2 : toldB n with
          | false =>
            rw [hb2] at q
            exact iteF (q H2 e2)
          | true =>
            rw [hb2] at q
            cases n with
            | list ns =>
              cases hn with
              | @lst b ys _ hb hy =>
              refine iteT ⟨_, rfl, a, _, 1, _, rfl, rfl, (.inl (.inl (e2 _ _ ha))), rfl, b, ys, rfl, .inl (.inl (.inl (e2 _ _ hb))), _, _, rfl, rfl, ?_⟩
              have e : decide ((ys.length : Int) > 0) = (true && (true && someB (.list ns))) := by
                show _ = (true && (true && decide (0 < ns.length)))
                rw [Bool.true_and, Bool.true_and, hy.len]
                exact decide_eq_decide.mpr (by omega)
              rw [← e] at q
              exact q H2 e2
            | _ => cases hb2
      · rw [widB_len h2] at q
        rw [decide_eq_false h2]
        exact iteT (q H (Same.refl H))
    | _ => exact iteT (q H (Same.refl H))
theorem all_blD : ∀ l : List Bool, (blD l).all isBool = true
  | [] => rfl
  | _ :: r => by
    show (true && (blD r).all isBool) = true
    rw [all_blD r]
    rfl
theorem wid_good {A T : List Bool} (h : 0 < T.length) : widB (wdD A T) = true := by
  show ((blD A).all isBool && ((blD T).all isBool && decide (0 < (blD T).length))) = true
  rw [all_blD, all_blD, List.length_map, decide_eq_true h]
  rfl
theorem wid_few {A T : List Bool} (h : A.length ≤ 1000) (h' : T.length ≤ 1000) : Few (wdD A T) := by
  intro d hd es e
  simp only [List.mem_cons, List.not_mem_nil, or_false] at hd
  rcases hd with rfl | rfl
  · cases e; rw [List.length_map]; omega
  · cases e; rw [List.length_map]; omega

/-- widths that are handed: a tuple of two lists -/
structure WdOk (H : Hp) (x : V) (A T : List Bool) : Prop where
  dt : Dt H x (wdD A T)
  pos : 0 < T.length
  a : A.length ≤ 1000
  t : T.length ≤ 1000
theorem WdOk.to {H H' : Hp} {x : V} {A T : List Bool} (h : WdOk H x A T) (e : Same H H') : WdOk H' x A T := ⟨h.dt.to e, h.pos, h.a, h.t⟩
def spCheckW : Sp := fun vs H Q _ => ∃ (x : V) (A T : List Bool), vs = [x] ∧ WdOk H x A T ∧ ∀ H', Same H H' → Q .non H'
theorem ok_check_widths (T : Tx K mg) : FnG P w K mg base CX0 3 T.a_check_widths T.d_check_widths ["widths"] spCheckW := by
  have G_is_widths := ok_is_widths (P := P) (w := w) (base := base) T
  refine bodyG0 T.F_check_widths sc_check_widths (fun vs H Q E h => ?_) (fun cdv A outer s H vs Q E gd hr h => ?_)
  · obtain ⟨x, B, U, rfl, _⟩ := h; rfl
  · obtain ⟨x, B, U, rfl, ok, q⟩ := h
    refine ⟨_, (pss_one (ps_if (pt_not (pt_val (pe_g G_is_widths gd (hr.mono (by decide)) (by rfl) T.g_is_widths T.F_is_widths.kp T.b_is_widths .nil pass0 (pa_cons (pv 0) pa_nil)))) (pss_one ps_never) pss_nil)), ?_⟩
    refine ⟨_, rfl, x, _, rfl, ok.dt, wid_few ok.a ok.t, fun H' e => ?_⟩
    rw [wid_good ok.pos]
    exact ⟨true, rfl, iteF (q H' e)⟩

theorem ok_check_wide (T : Tx K mg) : FnG P w K mg base CX0 3 T.a_check_wide T.d_check_wide ["width"] (fun vs H Q _ => ∃ i : Nat, vs = [.int i] ∧ Q .non H) := by
  have G_is_count := ok_is_count (P := P) (w := w) (base := base) T
  refine bodyG0 T.F_check_wide sc_check_wide (fun vs H Q E h => ?_) (fun cdv A outer s H vs Q E gd hr h => ?_)
  · obtain ⟨i, rfl, _⟩ := h; rfl
  · obtain ⟨i, rfl, q⟩ := h
    refine ⟨_, (pss_one (ps_if (pt_not (pt_val (pe_g G_is_count gd (hr.mono (by decide)) (by rfl) T.g_is_count T.F_is_count.kp T.b_is_count .nil pass0 (pa_cons (pv 0) pa_nil)))) (pss_one ps_never) pss_nil)), ?_⟩
    exact ⟨_, rfl, i, rfl, true, rfl, iteF q⟩

def spIn : Sp := fun vs H Q _ => ∃ (x : V) (A T : List Bool) (n : Nat), vs = [x, .int n] ∧ Dt H x (wdD A T) ∧ 0 < T.length ∧ Q (.bl (itemW A T n)) H

theorem ok_is_in (T : Tx K mg) : FnG P w K mg base CX0 1 T.a_is_in T.d_is_in ["widths", "width"] spIn := by
  refine bodyG0 T.F_is_in sc_is_in (fun vs H Q E h => ?_) (fun cdv A outer s H vs Q E gd hr h => ?_)
  · obtain ⟨x, B, U, n, rfl, _⟩ := h; rfl
  · obtain ⟨x, B, U, n, rfl, hx, ht, q⟩ := h
    refine ⟨_, (pss_cons (ps_asg (pv 0) (pg_tup (by rfl) (pgs_cons (pg_name (i := 2) sc_is_in.nd rfl (Or.inl rfl)) (pgs_cons (pg_name (i := 3) sc_is_in.nd rfl (Or.inl rfl)) pgs_nil))))
      (pss_cons (ps_if (pt_cmpR op_lt (pv 1) (pe_callB (call_lenK (K := K) rfl) (by rfl) T.z_len (by decide +kernel) (pa_cons (pv 2) pa_nil)) (nomark _)) (pss_one (ps_ret (pe_ix (ix_listK (K := K) rfl) (pv 2) (pv 1) (fun _ _ => rfl)))) pss_nil)
      (pss_one (ps_ret (pe_ix (ix_listK (K := K) rfl) (pv 3) (pe_op op_mod (pe_op op_sub (pv 1) (pe_callB (call_lenK (K := K) rfl) (by rfl) T.z_len (by decide +kernel) (pa_cons (pv 2) pa_nil))) (pe_callB (call_lenK (K := K) rfl) (by rfl) T.z_len (by decide +kernel) (pa_cons (pv 3) pa_nil))) (fun _ _ => rfl)))))), ?_⟩
    obtain ⟨a, b, c, rfl, ha, hb, hc⟩ := hx.wd
    have sa : SqL K H b (blV B) := .inl (.inl hb)
    have st : SqL K H c (blV U) := .inl (.inl hc)
    refine ⟨_, rfl, a, [.ref b, .ref c], rfl, .inl (.inl ha), rfl, _, _, rfl, _, _, rfl, rfl, ?_⟩
    refine ⟨_, rfl, _, rfl, b, _, rfl, .inl sa, _, _, rfl, rfl, _, rfl, ?_⟩
    rw [List.length_map]
    by_cases hn : (n : Int) < (B.length : Nat)
    · rw [decide_eq_true hn]
      have hn : n < B.length := by omega
      rw [item_lt hn] at q
      exact iteT ⟨_, rfl, _, rfl, _, _, _, _, rfl, rfl, sa, atI_nat (bl_at hn), q⟩
    · rw [decide_eq_false hn]
      have hn : B.length ≤ n := by omega
      rw [item_ge' hn] at q
      have e : ((n : Int) - ((blV B).length : Nat)) % ((blV U).length : Nat) = (((n - B.length) % U.length : Nat) : Int) := by
        rw [List.length_map, List.length_map, Int.natCast_emod, Int.ofNat_sub hn]
      refine iteF ⟨_, rfl, _, rfl, _, rfl, b, _, rfl, .inl sa, _, _, rfl, rfl, _, rfl, c, _, rfl, .inl st, _, _, rfl, rfl, (by show (0 : Int) < ((blV U).length : Nat); rw [List.length_map]; omega), ?_⟩
      exact ⟨_, _, _, _, rfl, rfl, st, (by rw [e]; exact atI_nat (bl_at (Nat.mod_lt _ ht))), q⟩

def spHas : Sp := fun vs H Q _ => ∃ (x : V) (A T : List Bool) (n : Nat), vs = [x, .int n] ∧ WdOk H x A T ∧ ∀ H', Same H H' → Q (.bl (itemW A T n)) H'
theorem ok_has_width (T : Tx K mg) : FnG P w K mg base CX0 4 T.a_has_width T.d_has_width ["widths", "width"] spHas := by
  have G_check_widths := ok_check_widths (P := P) (w := w) (base := base) T
  have G_check_wide := ok_check_wide (P := P) (w := w) (base := base) T
  have G_is_in := ok_is_in (P := P) (w := w) (base := base) T
  refine bodyG0 T.F_has_width sc_has_width (fun vs H Q E h => ?_) (fun cdv A outer s H vs Q E gd hr h => ?_)
  · obtain ⟨x, B, U, n, rfl, _⟩ := h; rfl
  · obtain ⟨x, B, U, n, rfl, ok, q⟩ := h
    refine ⟨_, (pss_cons (ps_expr (pe_g G_check_widths gd (hr.mono (by decide)) (by rfl) T.g_check_widths T.F_check_widths.kp T.b_check_widths .nil pass0 (pa_cons (pv 0) pa_nil)))
      (pss_cons (ps_expr (pe_g G_check_wide gd (hr.mono (by decide)) (by rfl) T.g_check_wide T.F_check_wide.kp T.b_check_wide .nil pass0 (pa_cons (pv 1) pa_nil)))
      (pss_one (ps_ret (pe_g G_is_in gd (hr.mono (by decide)) (by rfl) T.g_is_in T.F_is_in.kp T.b_is_in .nil pass0 (pa_cons (pv 0) (pa_cons (pv 1) pa_nil))))))), ?_⟩
    exact ⟨_, rfl, x, B, U, rfl, ok, fun H' e => ⟨_, rfl, n, rfl, _, rfl, _, rfl, x, B, U, n, rfl, ok.dt.to e, ok.pos, q H' e⟩⟩

theorem ok_law_item (T : Tx K mg) : FnG P w K mg base CX0 1 T.a_law_item T.d_law_item ["_law_told", "_law_width_told"] spIn := by
  refine bodyG0 T.F_law_item sc_law_item (fun vs H Q E h => ?_) (fun cdv A outer s H vs Q E gd hr h => ?_)
  · obtain ⟨x, B, U, n, rfl, _⟩ := h; rfl
  · obtain ⟨x, B, U, n, rfl, hx, ht, q⟩ := h
    refine ⟨_, (pss_cons (ps_asg (pv 0) (pg_tup (by rfl) (pgs_cons (pg_name (i := 2) sc_law_item.nd rfl (Or.inl rfl)) (pgs_cons (pg_name (i := 3) sc_law_item.nd rfl (Or.inl rfl)) pgs_nil))))
      (pss_one (ps_ret (pe_ifExp (pt_cmpR op_lt (pv 1) (pe_callB (call_lenK (K := K) rfl) (by rfl) T.z_len (by decide +kernel) (pa_cons (pv 2) pa_nil)) (nomark _)) (pe_ix (ix_listK (K := K) rfl) (pv 2) (pv 1) (fun _ _ => rfl)) (pe_ix (ix_listK (K := K) rfl) (pv 3) (pe_op op_mod (pe_callTy call_int1 (by rfl) T.z_int (by decide +kernel) (pa_cons (pe_op op_sub (pv 1) (pe_callB (call_lenK (K := K) rfl) (by rfl) T.z_len (by decide +kernel) (pa_cons (pv 2) pa_nil))) pa_nil)) (pe_callB (call_lenK (K := K) rfl) (by rfl) T.z_len (by decide +kernel) (pa_cons (pv 3) pa_nil))) (fun _ _ => rfl)))))), ?_⟩
    obtain ⟨a, b, c, rfl, ha, hb, hc⟩ := hx.wd
    have sa : SqL K H b (blV B) := .inl (.inl hb)
    have st : SqL K H c (blV U) := .inl (.inl hc)
    refine ⟨_, rfl, a, [.ref b, .ref c], rfl, .inl (.inl ha), rfl, _, _, rfl, _, _, rfl, rfl, ?_⟩
    refine ⟨_, rfl, _, rfl, b, _, rfl, .inl sa, _, _, rfl, rfl, _, rfl, ?_⟩
    rw [List.length_map]
    by_cases hn : (n : Int) < (B.length : Nat)
    · rw [decide_eq_true hn]
      have hn : n < B.length := by omega
      rw [item_lt hn] at q
      exact iteT ⟨_, rfl, _, rfl, _, _, _, _, rfl, rfl, sa, atI_nat (bl_at hn), q⟩
    · rw [decide_eq_false hn]
      have hn : B.length ≤ n := by omega
      rw [item_ge' hn] at q
      have e : ((n : Int) - ((blV B).length : Nat)) % ((blV U).length : Nat) = (((n - B.length) % U.length : Nat) : Int) := by
        rw [List.length_map, List.length_map, Int.natCast_emod, Int.ofNat_sub hn]
      refine iteF ⟨_, rfl, _, rfl, _, rfl, b, _, rfl, .inl sa, _, _, rfl, rfl, .inl ⟨_, rfl, _, rfl, c, _, rfl, .inl st, _, _, rfl, rfl, (by show (0 : Int) < ((blV U).length : Nat); rw [List.length_map]; omega), ?_⟩⟩
      exact ⟨_, _, _, _, rfl, rfl, st, (by rw [e]; exact atI_nat (bl_at (Nat.mod_lt _ ht))), q⟩

/-- a new list of Booleans -/
def newB (l : List Bool) (H : Hp) (Q : VK) : Prop := ∀ (p : Addr) (H' : Hp), Same H H' → H p = none → H' p = some (.lst (blV l)) → Q (.ref p) H'
def spShort : Sp := fun vs H Q _ => ∃ (q : Addr) (T : List Bool), vs = [.ref q] ∧ H q = some (.lst (blV T)) ∧ 0 < T.length ∧ T.length ≤ 1000 ∧ newB (T.take (leastS T)) H Q
theorem ok_shortest_turn (T : Tx K mg) : FnG P w K mg base CX0 1 T.a_shortest_turn T.d_shortest_turn ["turn"] spShort := by
  refine bodyG0 T.F_shortest_turn sc_shortest_turn (fun vs H Q E h => ?_) (fun cdv A outer s H vs Q E gd hr h => ?_)
  · obtain ⟨c, U, rfl, _⟩ := h; rfl
  · obtain ⟨c, U, rfl, hc, t0, t1, q⟩ := h
    refine ⟨_, (pss_cons (ps_set (i := 1) sc_shortest_turn.nd rfl (Or.inl rfl) pe_int)
      (pss_cons (ps_while PassesOwn.never (PW.pt (pw_or (pt_cmpR op_ne (pe_op op_mod (pe_callB (call_lenK (K := K) rfl) (by rfl) T.z_len (by decide +kernel) (pa_cons (pv 0) pa_nil)) (pv 1)) pe_int (nomark _)) (pw_or1 (pt_cmpR (op_neT hr.units) (pe_slice (sl_listK (K := K) rfl) (pv 0) (po_some (pv 1)) po_none) (pe_slice (sl_listK (K := K) rfl) (pv 0) po_none (po_some (pe_un un_neg (pv 1)))) (nomark _))))) (pss_one (ps_aug (i := 1) sc_shortest_turn.nd rfl (Or.inl rfl) pe_int ip_add)))
      (pss_one (ps_ret (pe_slice (sl_listK (K := K) rfl) (pv 0) po_none (po_some (pv 1))))))), ?_⟩
    have lo := least_ok t0
    have hlen : (blV U).length = U.length := List.length_map ..
    refine ⟨fun m σ H' => ∃ s : Nat, m = U.length - s ∧ 1 ≤ s ∧ s ≤ leastS U ∧ σ = [some (.ref c), some (.int (s : Int))] ∧ Same H H', ⟨_, 1, rfl, Nat.le_refl _, lo.pos, rfl, Same.refl H⟩, ?_⟩
    rintro m σ H1 ⟨s, rfl, s1, s2, rfl, e1⟩
    have sc : SqL K H1 c (blV U) := .inl (.inl (e1 _ _ hc))
    have sl := lo.le
    refine ⟨_, rfl, c, _, rfl, .inl sc, _, rfl, _, _, rfl, rfl, (by omega), rfl, _, rfl, ?_⟩
    rw [vi, hlen]
    by_cases hm : (U.length : Int) % (s : Int) = 0
    · rw [decide_eq_true hm]
      refine iteF ⟨_, rfl, _, rfl, _, rfl, c, _, rfl, sc, fun p hp => ?_⟩
      have e2 := e1.trans (same_new' (o := .lst (blV (U.drop s))) hp)
      rw [cut_from U (by omega)]
      refine ⟨_, rfl, _, rfl, _, rfl, _, rfl, c, _, rfl, .inl (.inl (e2 _ _ hc)), fun r hr => ?_⟩
      have e3 := e2.trans (same_new' (o := .lst (blV (U.take (U.length - s)))) hr)
      have np : r ≠ p := fun z => by rw [z, upd_same] at hr; cases hr
      rw [cut_back U (by omega) (by omega)]
      refine ne_bls (l := U.drop s) (m := U.take (U.length - s)) (by rw [upd_ne (Ne.symm np), upd_same]) upd_same ?_
      have hmn : U.length % s = 0 := by omega
      by_cases hs : U.drop s = U.take (U.length - s)
      · rw [decide_eq_true hs]
        have es : s = leastS U := Nat.le_antisymm s2 (Nat.le_of_not_lt fun z => lo.min s (by omega) (by omega) ((per_iff (by omega) (by omega)).mpr ⟨hmn, hs⟩))
        refine ⟨_, rfl, iteF ?_⟩
        refine ⟨_, rfl, _, rfl, _, rfl, c, _, rfl, .inl (.inl (e3 _ _ hc)), fun z hz => ?_⟩
        rw [cut_to]
        rw [← es] at q
        exact q z _ (e3.trans (same_new' hz)) (e3.free hz) upd_same
      · rw [decide_eq_false hs]
        have ns : s ≠ leastS U := fun z => hs ((per_iff (by omega) (by omega)).mp (z ▸ lo.per)).2
        have lt : s < leastS U := by omega
        refine ⟨_, rfl, iteT ⟨fun σ' H' => σ' = [some (.ref c), some (.int ((s : Int) + 1))] ∧ Same H H', fun σ' H' ⟨z1, z2⟩ => ⟨U.length - (s + 1), by omega, s + 1, rfl, by omega, by omega, z1, z2⟩, ?_⟩⟩
        exact ⟨_, rfl, _, _, rfl, rfl, rfl, e3⟩
    · rw [decide_eq_false hm]
      have ns : s ≠ leastS U := fun z => hm (by have := lo.per.1; rw [← z] at this; omega)
      have lt : s < leastS U := by omega
      refine iteT ?_
      refine iteT ⟨fun σ' H' => σ' = [some (.ref c), some (.int ((s : Int) + 1))] ∧ Same H H', fun σ' H' ⟨z1, z2⟩ => ⟨U.length - (s + 1), by omega, s + 1, rfl, by omega, by omega, z1, z2⟩, ?_⟩
      exact ⟨_, rfl, _, _, rfl, rfl, rfl, e1⟩

/-- new widths -/
def newW (p : List Bool × List Bool) (H : Hp) (Q : VK) : Prop := ∀ (a b c : Addr) (H' : Hp), Same H H' → H a = none → H b = none → H c = none → b ≠ c → H' a = some (.tup [.ref b, .ref c]) → H' b = some (.lst (blV p.1)) → H' c = some (.lst (blV p.2)) → Q (.ref a) H'
def spMade : Sp := fun vs H Q _ => ∃ (b c : Addr) (A T : List Bool), vs = [.ref b, .ref c] ∧ H b = some (.lst (blV A)) ∧ H c = some (.lst (blV T)) ∧ 0 < T.length ∧ T.length ≤ 1000 ∧ A.length ≤ 1000 ∧ newW (plainF A T) H Q
theorem ok_made_plain (T : Tx K mg) : FnG P w K mg base CX0 2 T.a_made_plain T.d_made_plain ["ahead", "turn"] spMade := by
  have G_shortest_turn := ok_shortest_turn (P := P) (w := w) (base := base) T
  refine bodyG0 T.F_made_plain sc_made_plain (fun vs H Q E h => ?_) (fun cdv A outer s H vs Q E gd hr h => ?_)
  · obtain ⟨b, c, B, U, rfl, _⟩ := h; rfl
  · obtain ⟨b, c, B, U, rfl, hb, hc, u0, u1, b1, q⟩ := h
    refine ⟨_, (pss_cons (ps_set (i := 1) sc_made_plain.nd rfl (Or.inl rfl) (pe_g G_shortest_turn gd (hr.mono (by decide)) (by rfl) T.g_shortest_turn T.F_shortest_turn.kp T.b_shortest_turn .nil pass0 (pa_cons (pv 1) pa_nil)))
      (pss_cons (ps_set (i := 2) sc_made_plain.nd rfl (Or.inl rfl) (pe_callB (call_lenK (K := K) rfl) (by rfl) T.z_len (by decide +kernel) (pa_cons (pv 1) pa_nil)))
      (pss_cons (ps_set (i := 3) sc_made_plain.nd rfl (Or.inl rfl) pe_int)
      (pss_cons (ps_while PassesOwn.never (PW.pt (pw_and (pt_cmpR op_lt (pv 3) (pe_callB (call_lenK (K := K) rfl) (by rfl) T.z_len (by decide +kernel) (pa_cons (pv 0) pa_nil)) (nomark _)) (pw_and1 (pt_cmpR op_eq (pe_ix (ix_listK (K := K) rfl) (pv 0) (pe_op op_sub (pe_un un_neg pe_int) (pv 3)) (fun _ _ => rfl)) (pe_ix (ix_listK (K := K) rfl) (pv 1) (pe_op op_sub (pe_un un_neg pe_int) (pe_op op_mod (pv 3) (pv 2))) (fun _ _ => rfl)) (nomark _))))) (pss_one (ps_aug (i := 3) sc_made_plain.nd rfl (Or.inl rfl) pe_int ip_add)))
      (pss_cons (ps_set (i := 4) sc_made_plain.nd rfl (Or.inl rfl) (pe_op op_sub (pv 2) (pe_op op_mod (pv 3) (pv 2))))
      (pss_one (ps_ret (pe_tup (pa_cons (pe_slice (sl_listK (K := K) rfl) (pv 0) po_none (po_some (pe_op op_sub (pe_callB (call_lenK (K := K) rfl) (by rfl) T.z_len (by decide +kernel) (pa_cons (pv 0) pa_nil)) (pv 3)))) (pa_cons (pe_op op_cat (pe_slice (sl_listK (K := K) rfl) (pv 1) (po_some (pv 4)) po_none) (pe_slice (sl_listK (K := K) rfl) (pv 1) po_none (po_some (pv 4)))) pa_nil)))))))))), ?_⟩
    refine ⟨_, rfl, c, U, rfl, hc, u0, u1, fun d H1 e1 nd hd => ?_⟩
    have half := half_of (A := B) (least_ok u0)
    have lo := least_ok u0
    have vl : (U.take (leastS U)).length ≤ 1000 := by rw [List.length_take]; omega
    revert half hd vl
    generalize U.take (leastS U) = Z
    intro hd half vl
    have z0 := half.some
    have hb1 := e1 _ _ hb
    have sb : SqL K H1 b (blV B) := .inl (.inl hb1)
    have sd : SqL K H1 d (blV Z) := .inl (.inl hd)
    have lb : (blV B).length = B.length := List.length_map ..
    have lz : (blV Z).length = Z.length := List.length_map ..
    refine ⟨_, rfl, d, _, rfl, .inl sd, ?_⟩
    rw [lz]
    refine ⟨fun m σ H' => H' = H1 ∧ ∃ l : Nat, m = B.length - l ∧ l ≤ B.length ∧ (∀ j, j < l → B.getD (B.length - 1 - j) false = Z.getD (Z.length - 1 - j % Z.length) false) ∧ σ = [some (.ref b), some (.ref d), some (.int (Z.length : Int)), some (.int (l : Int)), none], ⟨_, rfl, 0, rfl, Nat.zero_le _, fun j hj => by omega, rfl⟩, ?_⟩
    rintro m σ H' ⟨rfl, l, rfl, l1, same, rfl⟩
    refine ⟨_, rfl, _, rfl, b, _, rfl, .inl sb, _, _, rfl, rfl, _, rfl, ?_⟩
    rw [lb]
    by_cases hl : (l : Int) < (B.length : Nat)
    · rw [decide_eq_true hl]
      have hl : l < B.length := by omega
      have lm := Nat.mod_lt l z0
      have e1' : (-1 : Int) - (l : Int) % (Z.length : Int) = -1 - ((l % Z.length : Nat) : Int) := by rw [Int.natCast_emod]
      refine iteT ⟨_, rfl, _, rfl, _, rfl, _, _, rfl, rfl, _, _, _, _, rfl, rfl, sb, bl_back hl, ?_⟩
      refine ⟨_, rfl, _, rfl, _, rfl, _, rfl, _, _, rfl, rfl, (by show (0 : Int) < (Z.length : Nat); omega), _, _, rfl, rfl, _, _, _, _, rfl, rfl, sd, (by rw [e1']; exact bl_back lm), ?_⟩
      refine ⟨rfl, _, rfl, ?_⟩
      by_cases he : B.getD (B.length - 1 - l) false = Z.getD (Z.length - 1 - l % Z.length) false
      · have ev : decide (V.bl (B.getD (B.length - 1 - l) false) = V.bl (Z.getD (Z.length - 1 - l % Z.length) false)) = true := decide_eq_true (by rw [he])
        rw [ev]
        refine iteT ⟨fun σ' H2 => σ' = [some (.ref b), some (.ref d), some (.int (Z.length : Int)), some (.int ((l : Int) + 1)), none] ∧ H2 = H', fun σ' H2 ⟨z1, z2⟩ => ⟨B.length - (l + 1), by omega, z2, l + 1, rfl, by omega, fun j hj => ?_, z1⟩, ?_⟩
        · by_cases hj2 : j < l
          · exact same j hj2
          · rw [show j = l by omega]
            exact he
        · exact ⟨_, rfl, _, _, rfl, rfl, rfl, rfl⟩
      · have ev : decide (V.bl (B.getD (B.length - 1 - l) false) = V.bl (Z.getD (Z.length - 1 - l % Z.length) false)) = false := decide_eq_false fun z => he (by injection z)
        rw [ev]
        have stop : l < B.length → B.getD (B.length - 1 - l) false ≠ Z.getD (Z.length - 1 - l % Z.length) false := fun _ => he
        refine iteF ?_
        have lm := Nat.mod_lt l z0
        have eb : (Z.length : Int) - (l : Int) % (Z.length : Int) = ((Z.length - l % Z.length : Nat) : Int) := by
          rw [Int.ofNat_sub (Nat.le_of_lt lm), Int.natCast_emod]
        refine ⟨_, rfl, _, rfl, _, rfl, _, _, rfl, rfl, (by show (0 : Int) < (Z.length : Nat); omega), _, _, rfl, rfl, ?_⟩
        dsimp only [gName]
        rw [eb]
        have pl := moved half l1 same stop
        have ep := plainF_of u0 pl
        rw [ep] at q
        have ec : ((blV B).length : Int) - (l : Int) = ((B.length - l : Nat) : Int) := by rw [lb, Int.ofNat_sub l1]
        refine ⟨_, rfl, _, rfl, b, _, rfl, .inl sb, _, rfl, _, _, rfl, rfl, _, rfl, b, _, rfl, sb, fun p hp => ?_⟩
        rw [ec, cut_to]
        have e2 := same_new' (o := .lst (blV (B.take (B.length - l)))) hp
        have hp2 : (upd H' p (.lst (blV (B.take (B.length - l))))) p = some (.lst (blV (B.take (B.length - l)))) := upd_same
        generalize (upd H' p (.lst (blV (B.take (B.length - l))))) = H2 at e2 hp2
        refine ⟨_, rfl, _, rfl, _, rfl, d, _, rfl, .inl (.inl (e2 _ _ hd)), fun r hr => ?_⟩
        rw [cut_from Z (by omega)]
        have e3 := same_new' (o := .lst (blV (Z.drop (Z.length - l % Z.length)))) hr
        have hr3 : (upd H2 r (.lst (blV (Z.drop (Z.length - l % Z.length))))) r = some (.lst (blV (Z.drop (Z.length - l % Z.length)))) := upd_same
        generalize (upd H2 r (.lst (blV (Z.drop (Z.length - l % Z.length))))) = H3 at e3 hr3
        refine ⟨_, rfl, _, rfl, _, rfl, d, _, rfl, .inl (.inl (e3 _ _ (e2 _ _ hd))), fun t ht => ?_⟩
        rw [cut_to]
        have e4 := same_new' (o := .lst (blV (Z.take (Z.length - l % Z.length)))) ht
        have ht4 : (upd H3 t (.lst (blV (Z.take (Z.length - l % Z.length))))) t = some (.lst (blV (Z.take (Z.length - l % Z.length)))) := upd_same
        generalize (upd H3 t (.lst (blV (Z.take (Z.length - l % Z.length))))) = H4 at e4 ht4
        have len2 : (Z.drop (Z.length - l % Z.length)).length + (Z.take (Z.length - l % Z.length)).length = Z.length := by rw [List.length_drop, List.length_take]; omega
        refine ⟨r, t, _, _, rfl, rfl, e4 _ _ hr3, ht4, by rw [List.length_map, List.length_map, len2, sizeLine_eq]; omega, fun u hu => ?_⟩
        rw [show blV (Z.drop (Z.length - l % Z.length)) ++ blV (Z.take (Z.length - l % Z.length)) = blV (Z.drop (Z.length - l % Z.length) ++ Z.take (Z.length - l % Z.length)) from (List.map_append ..).symm]
        have e5 := same_new' (o := .lst (blV (Z.drop (Z.length - l % Z.length) ++ Z.take (Z.length - l % Z.length)))) hu
        have hu5 : (upd H4 u (.lst (blV (Z.drop (Z.length - l % Z.length) ++ Z.take (Z.length - l % Z.length))))) u = some (.lst (blV (Z.drop (Z.length - l % Z.length) ++ Z.take (Z.length - l % Z.length)))) := upd_same
        generalize (upd H4 u (.lst (blV (Z.drop (Z.length - l % Z.length) ++ Z.take (Z.length - l % Z.length))))) = H5 at e5 hu5
        refine ⟨by rw [sizeLine_eq]; show 2 ≤ _; decide, fun a ha => ?_⟩
        have e6 := same_new' (o := .tup [.ref p, .ref u]) ha
        have e14 := (e1.trans e2).trans (e3.trans e4)
        have hp5 := (e3.trans (e4.trans e5)) _ _ hp2
        exact q a p u _ ((e14.trans e5).trans e6) ((e14.trans e5).free ha) (e1.free hp) (e14.free hu) (fun z => by rw [← z, ((e3.trans e4) _ _ hp2)] at hu; exact nomatch hu) upd_same (e6 _ _ hp5) (e6 _ _ hu5)
    · rw [decide_eq_false hl]
      have stop : l < B.length → B.getD (B.length - 1 - l) false ≠ Z.getD (Z.length - 1 - l % Z.length) false := fun z => absurd (show (l : Int) < (B.length : Nat) by omega) hl
      refine iteF ?_
      refine iteF ?_
      have lm := Nat.mod_lt l z0
      have eb : (Z.length : Int) - (l : Int) % (Z.length : Int) = ((Z.length - l % Z.length : Nat) : Int) := by
        rw [Int.ofNat_sub (Nat.le_of_lt lm), Int.natCast_emod]
      refine ⟨_, rfl, _, rfl, _, rfl, _, _, rfl, rfl, (by show (0 : Int) < (Z.length : Nat); omega), _, _, rfl, rfl, ?_⟩
      dsimp only [gName]
      rw [eb]
      have pl := moved half l1 same stop
      have ep := plainF_of u0 pl
      rw [ep] at q
      have ec : ((blV B).length : Int) - (l : Int) = ((B.length - l : Nat) : Int) := by rw [lb, Int.ofNat_sub l1]
      refine ⟨_, rfl, _, rfl, b, _, rfl, .inl sb, _, rfl, _, _, rfl, rfl, _, rfl, b, _, rfl, sb, fun p hp => ?_⟩
      rw [ec, cut_to]
      have e2 := same_new' (o := .lst (blV (B.take (B.length - l)))) hp
      have hp2 : (upd H' p (.lst (blV (B.take (B.length - l))))) p = some (.lst (blV (B.take (B.length - l)))) := upd_same
      generalize (upd H' p (.lst (blV (B.take (B.length - l))))) = H2 at e2 hp2
      refine ⟨_, rfl, _, rfl, _, rfl, d, _, rfl, .inl (.inl (e2 _ _ hd)), fun r hr => ?_⟩
      rw [cut_from Z (by omega)]
      have e3 := same_new' (o := .lst (blV (Z.drop (Z.length - l % Z.length)))) hr
      have hr3 : (upd H2 r (.lst (blV (Z.drop (Z.length - l % Z.length))))) r = some (.lst (blV (Z.drop (Z.length - l % Z.length)))) := upd_same
      generalize (upd H2 r (.lst (blV (Z.drop (Z.length - l % Z.length))))) = H3 at e3 hr3
      refine ⟨_, rfl, _, rfl, _, rfl, d, _, rfl, .inl (.inl (e3 _ _ (e2 _ _ hd))), fun t ht => ?_⟩
      rw [cut_to]
      have e4 := same_new' (o := .lst (blV (Z.take (Z.length - l % Z.length)))) ht
      have ht4 : (upd H3 t (.lst (blV (Z.take (Z.length - l % Z.length))))) t = some (.lst (blV (Z.take (Z.length - l % Z.length)))) := upd_same
      generalize (upd H3 t (.lst (blV (Z.take (Z.length - l % Z.length))))) = H4 at e4 ht4
      have len2 : (Z.drop (Z.length - l % Z.length)).length + (Z.take (Z.length - l % Z.length)).length = Z.length := by rw [List.length_drop, List.length_take]; omega
      refine ⟨r, t, _, _, rfl, rfl, e4 _ _ hr3, ht4, by rw [List.length_map, List.length_map, len2, sizeLine_eq]; omega, fun u hu => ?_⟩
      rw [show blV (Z.drop (Z.length - l % Z.length)) ++ blV (Z.take (Z.length - l % Z.length)) = blV (Z.drop (Z.length - l % Z.length) ++ Z.take (Z.length - l % Z.length)) from (List.map_append ..).symm]
      have e5 := same_new' (o := .lst (blV (Z.drop (Z.length - l % Z.length) ++ Z.take (Z.length - l % Z.length)))) hu
      have hu5 : (upd H4 u (.lst (blV (Z.drop (Z.length - l % Z.length) ++ Z.take (Z.length - l % Z.length))))) u = some (.lst (blV (Z.drop (Z.length - l % Z.length) ++ Z.take (Z.length - l % Z.length)))) := upd_same
      generalize (upd H4 u (.lst (blV (Z.drop (Z.length - l % Z.length) ++ Z.take (Z.length - l % Z.length))))) = H5 at e5 hu5
      refine ⟨by rw [sizeLine_eq]; show 2 ≤ _; decide, fun a ha => ?_⟩
      have e6 := same_new' (o := .tup [.ref p, .ref u]) ha
      have e14 := (e1.trans e2).trans (e3.trans e4)
      have hp5 := (e3.trans (e4.trans e5)) _ _ hp2
      exact q a p u _ ((e14.trans e5).trans e6) ((e14.trans e5).free ha) (e1.free hp) (e14.free hu) (fun z => by rw [← z, ((e3.trans e4) _ _ hp2)] at hu; exact nomatch hu) upd_same (e6 _ _ hp5) (e6 _ _ hu5)

theorem len_of_nice {ds : List PyData} (h : Nice (.list ds)) : ds.length ≤ 262144 := by
  have key : ∀ l : List PyData, l.length ≤ PyData.bulkAll l := by
    intro l
    induction l with
    | nil => exact Nat.zero_le _
    | cons x r ih =>
      simp only [PyData.bulkAll, List.length_cons]
      omega
  have := h.small
  simp only [PyData.bulk] at this
  exact Nat.le_trans (key ds) this
theorem small1000 {n : Nat} (h : n ≤ 1000) : n < sizeLine := by rw [sizeLine_eq]; omega
theorem blV_snoc (l : List Bool) (b : Bool) : blV l ++ [V.bl b] = blV (l ++ [b]) := by
  show _ = List.map _ _
  rw [List.map_append]
  rfl
/-- lists within a tuple are data -/
def FewN : PyData → Prop
  | .tuple ds => ∀ d ∈ ds, isList d = true → Nice d
  | _ => True
theorem FewN.few {d : PyData} (h : FewN d) : Few d := by
  cases d with
  | tuple ds =>
    intro d hd es e
    subst e
    have := len_of_nice (h _ hd rfl)
    omega
  | _ => trivial

end

end K41

set_option Elab.async false
set_option linter.all false
set_option maxRecDepth 100000
set_option maxHeartbeats 4000000
namespace K41
open PySem PySem.Spec PyProof.Rows L2 Hw
section
variable {P : Program} {w : World} {K : PySem.W.Frag} {mg : Str → Option Value} {base : Heap}

def spLPlain : Sp := fun vs H Q _ => ∃ (x : V) (A T : List Bool), vs = [x] ∧ WdOk H x A T ∧ ∀ (a : V) (H' : Hp), Same H H' → Dt H' a (wdD (plainF A T).1 (plainF A T).2) → Q a H'
theorem ok_law_plain (T : Tx K mg) : FnG P w K mg base CX0 1 T.a_law_plain T.d_law_plain ["_law_told"] spLPlain := by
  refine bodyG0 T.F_law_plain sc_law_plain (fun vs H Q E h => ?_) (fun cdv A outer s H vs Q E gd hr h => ?_)
  · obtain ⟨x, B, U, rfl, _⟩ := h; rfl
  · obtain ⟨x, B, U, rfl, ok, q⟩ := h
    refine ⟨_, (pss_cons (ps_asg (pe_tup (pa_cons (pe_callTy (call_listK (K := K) rfl) (by rfl) T.z_list (by decide +kernel) (pa_cons (pe_ix (ix_tupK (K := K) rfl) (pv 0) pe_int (fun _ _ => rfl)) pa_nil)) (pa_cons (pe_callTy (call_listK (K := K) rfl) (by rfl) T.z_list (by decide +kernel) (pa_cons (pe_ix (ix_tupK (K := K) rfl) (pv 0) pe_int (fun _ _ => rfl)) pa_nil)) pa_nil))) (pg_tup (by rfl) (pgs_cons (pg_name (i := 1) sc_law_plain.nd rfl (Or.inl rfl)) (pgs_cons (pg_name (i := 2) sc_law_plain.nd rfl (Or.inr rfl)) pgs_nil))))
      (pss_cons (ps_setLc (i := 3) (own := [("_law_size", 5)]) (g := gName 5) rfl sc_law_plain.nd rfl rfl (sw_true rfl rfl rfl (by decide +kernel)) (pi_range2 (by rfl) T.z_range (pa_cons pe_int (pa_cons (pe_op op_add (pe_callB (call_lenK (K := K) rfl) (by rfl) T.z_len (by decide +kernel) (pa_cons (pv 2) pa_nil)) pe_int) pa_nil))) (blkOk_by (N := ["_law_told", "_law_ahead", "_law_turn", "_law_sizes", "_law_step", "_law_size"]) (sc := defScope s_law_plain) (by decide +kernel)) (fun _ _ _ _ _ => (pg_name (i := 5) sc_law_plain.nd rfl (Or.inl rfl))) (fun _ _ _ _ _ => (pts_one (PW.pt (pw_and (pt_cmpR op_eq (pe_op op_mod (pe_callTy call_int1 (by rfl) T.z_int (by decide +kernel) (pa_cons (pe_callB (call_lenK (K := K) rfl) (by rfl) T.z_len (by decide +kernel) (pa_cons (pv 2) pa_nil)) pa_nil)) (pv 5)) pe_int (nomark _)) (pw_and1 (pt_cmpR (op_eqT hr.units) (pv 2) (pe_op op_rep (pe_slice (sl_listK (K := K) rfl) (pv 2) po_none (po_some (pv 5))) (pe_op op_fdivW (pe_callB (call_lenK (K := K) rfl) (by rfl) T.z_len (by decide +kernel) (pa_cons (pv 2) pa_nil)) (pv 5))) (nomark _))))))) (fun _ _ _ _ _ => (pv 5)))
      (pss_cons (ps_set (i := 2) sc_law_plain.nd rfl (Or.inr rfl) (pe_slice (sl_listK (K := K) rfl) (pv 2) po_none (po_some (pe_ix (ix_listK (K := K) rfl) (pv 3) pe_int (fun _ _ => rfl)))))
      (pss_cons (ps_for PassesOwn.never rfl (pi_range1 (by rfl) T.z_range (pa_cons (pe_callB (call_lenK (K := K) rfl) (by rfl) T.z_len (by decide +kernel) (pa_cons (pv 1) pa_nil)) pa_nil)) (pg_name (i := 4) sc_law_plain.nd rfl (Or.inl rfl)) (pss_cons (ps_if (pt_cmpR op_eq (pe_ix (ix_listK (K := K) rfl) (pv 1) (pe_op op_sub (pe_callB (call_lenK (K := K) rfl) (by rfl) T.z_len (by decide +kernel) (pa_cons (pv 1) pa_nil)) pe_int) (fun _ _ => rfl)) (pe_ix (ix_listK (K := K) rfl) (pv 2) (pe_op op_sub (pe_callB (call_lenK (K := K) rfl) (by rfl) T.z_len (by decide +kernel) (pa_cons (pv 2) pa_nil)) pe_int) (fun _ _ => rfl)) (nomark _)) (pss_one (ps_asg (pe_tup (pa_cons (pe_slice (sl_listK (K := K) rfl) (pv 1) po_none (po_some (pe_op op_sub (pe_callB (call_lenK (K := K) rfl) (by rfl) T.z_len (by decide +kernel) (pa_cons (pv 1) pa_nil)) pe_int))) (pa_cons (pe_op op_cat (pe_slice (sl_listK (K := K) rfl) (pv 2) (po_some (pe_op op_sub (pe_callB (call_lenK (K := K) rfl) (by rfl) T.z_len (by decide +kernel) (pa_cons (pv 2) pa_nil)) pe_int)) po_none) (pe_slice (sl_listK (K := K) rfl) (pv 2) po_none (po_some (pe_op op_sub (pe_callB (call_lenK (K := K) rfl) (by rfl) T.z_len (by decide +kernel) (pa_cons (pv 2) pa_nil)) pe_int)))) pa_nil))) (pg_tup (by rfl) (pgs_cons (pg_name (i := 1) sc_law_plain.nd rfl (Or.inl rfl)) (pgs_cons (pg_name (i := 2) sc_law_plain.nd rfl (Or.inr rfl)) pgs_nil))))) pss_nil)
      (pss_one (ps_if (pt_cmpR (op_eqT hr.units) (pv 1) (pe_lst pa_nil) (nomark _)) (pss_one ps_break) pss_nil))))
      (pss_one (ps_ret (pe_tup (pa_cons (pv 1) (pa_cons (pv 2) pa_nil))))))))), ?_⟩
    obtain ⟨a, b, c, rfl, ha, hb, hc⟩ := ok.dt.wd
    have u0 := ok.pos
    have u1 := ok.t
    have b1 := ok.a
    have lo := least_ok u0
    have lu : (blV U).length = U.length := List.length_map ..
    refine ⟨_, rfl, a, _, 0, _, rfl, rfl, .inl (.inl ha), rfl, b, _, rfl, .inl (.inl (.inl hb)), fun p hp => ?_⟩
    have e2 := same_new' (o := .lst (blV B)) hp
    have hp2 : (upd H p (.lst (blV B))) p = some (.lst (blV B)) := upd_same
    generalize (upd H p (.lst (blV B))) = H2 at e2 hp2
    refine ⟨_, rfl, a, _, 1, _, rfl, rfl, .inl (.inl (e2 _ _ ha)), rfl, c, _, rfl, .inl (.inl (.inl (e2 _ _ hc))), fun r hr => ?_⟩
    have e3 := same_new' (o := .lst (blV U)) hr
    have hr3 : (upd H2 r (.lst (blV U))) r = some (.lst (blV U)) := upd_same
    generalize (upd H2 r (.lst (blV U))) = H3 at e3 hr3
    refine ⟨by rw [sizeLine_eq]; show 2 ≤ _; decide, fun t ht => ?_⟩
    have e4 := same_new' (o := .tup [.ref p, .ref r]) ht
    have ht4 : (upd H3 t (.tup [.ref p, .ref r])) t = some (.tup [.ref p, .ref r]) := upd_same
    generalize (upd H3 t (.tup [.ref p, .ref r])) = H4 at e4 ht4
    refine ⟨t, _, rfl, .inl (.inl ht4), rfl, _, _, rfl, _, _, rfl, rfl, ?_⟩
    have s04 := (e2.trans e3).trans e4
    have hp4 := (e3.trans e4) _ _ hp2
    have hr4 := e4 _ _ hr3
    -- the sizes
    have sr : SqL K H4 r (blV U) := .inl (.inl hr4)
    have en : ((blV U).length : Int) + 1 - 1 = (U.length : Int) := by rw [lu]; omega
    refine ⟨_, rfl, r, _, rfl, .inl sr, _, _, rfl, rfl, _, _, rfl, (by rw [lu]; omega), fun D hD => ?_⟩
    rw [en, Int.toNat_natCast]
    refine lc_range (lo := 1) (n := U.length) (fun i H' => Same H4 H' ∧ H' D = some (.lst (natV ((List.range' 1 i).filter fun s => decide (Per U s))))) ⟨same_new' hD, upd_same⟩ ?_ ?_
    · rintro i H' hi ⟨s1, e1⟩
      have es : (1 : Int) + (i : Int) = ((i + 1 : Nat) : Int) := by omega
      rw [es]
      have sr1 : SqL K H' r (blV U) := .inl (.inl (s1 _ _ hr4))
      have skip : ¬ Per U (i + 1) → Same H4 H' ∧ H' D = some (.lst (natV ((List.range' 1 (i + 1)).filter fun s => decide (Per U s)))) := fun z => by
        refine ⟨s1, ?_⟩
        rw [range'_snoc, List.filter_append, List.filter_cons_of_neg (by simpa using z), List.filter_nil, List.append_nil]
        exact e1
      refine ⟨rfl, _, rfl, r, _, rfl, .inl sr1, .inl ⟨_, rfl, _, rfl, _, _, rfl, rfl, (by show (0 : Int) < ((i + 1 : Nat) : Int); omega), rfl, _, rfl, ?_⟩⟩
      rw [vi, lu]
      by_cases hm : (U.length : Int) % ((i + 1 : Nat) : Int) = 0
      · rw [decide_eq_true hm]
        have hmn : U.length % (i + 1) = 0 := by omega
        refine iteT ⟨_, rfl, _, rfl, _, rfl, _, rfl, r, _, rfl, sr1, fun z hz => ?_⟩
        rw [cut_to]
        have e5 := same_new' (o := .lst (blV (U.take (i + 1)))) hz
        have hz5 : (upd H' z (.lst (blV (U.take (i + 1))))) z = some (.lst (blV (U.take (i + 1)))) := upd_same
        generalize (upd H' z (.lst (blV (U.take (i + 1))))) = H5 at e5 hz5
        have r5 := e5 _ _ (s1 _ _ hr4)
        refine ⟨_, rfl, r, _, rfl, .inl (.inl (.inl r5)), _, rfl, _, _, rfl, rfl, ?_, ?_⟩
        · exact wide_div (b := 20) (by omega) (by omega) (by decide) (by decide)
        have eq : ((blV U).length : Int) / ((i + 1 : Nat) : Int) = ((U.length / (i + 1) : Nat) : Int) := by rw [lu, Int.natCast_ediv]
        have eqn : (((U.length / (i + 1) : Nat) : Int)).toNat = U.length / (i + 1) := Int.toNat_natCast _
        have ql : U.length / (i + 1) ≤ U.length := Nat.div_le_self _ _
        have tl : (blV (U.take (i + 1))).length = i + 1 := by rw [List.length_map, List.length_take]; omega
        have qm : (i + 1) * (U.length / (i + 1)) ≤ U.length := Nat.mul_div_le _ _
        dsimp only
        rw [eq]
        refine ⟨z, _, _, rfl, rfl, hz5, by omega, by omega, by rw [tl, eqn, sizeLine_eq]; omega, fun y hy => ?_⟩
        rw [eqn, blV_rep]
        have e6 := same_new' (o := .lst (blV (List.replicate (U.length / (i + 1)) (U.take (i + 1))).flatten)) hy
        have hy6 : (upd H5 y (.lst (blV (List.replicate (U.length / (i + 1)) (U.take (i + 1))).flatten))) y = some (.lst (blV (List.replicate (U.length / (i + 1)) (U.take (i + 1))).flatten)) := upd_same
        generalize (upd H5 y (.lst (blV (List.replicate (U.length / (i + 1)) (U.take (i + 1))).flatten))) = H6 at e6 hy6
        refine eq_bls (e6 _ _ r5) hy6 ?_
        have pi := per_iff_rep (T := U) (s := i + 1) (by omega) (by omega) hmn
        have e16 := e5.trans e6
        refine ⟨_, rfl, ?_⟩
        by_cases hp2 : Per U (i + 1)
        · rw [decide_eq_true (pi.mp hp2)]
          have fl : (List.range' 1 (i + 1)).filter (fun s => decide (Per U s)) = (List.range' 1 i).filter (fun s => decide (Per U s)) ++ [i + 1] := by
            rw [range'_snoc, List.filter_append, List.filter_cons_of_pos (by simpa using hp2), List.filter_nil]
          refine iteT ⟨_, rfl, _, e16 _ _ e1, ?_, fun g o hg => ?_, ?_⟩
          · have := List.length_filter_le (fun s => decide (Per U s)) (List.range' 1 i)
            rw [List.length_range'] at this
            rw [List.length_map, sizeLine_eq]; omega
          · rw [upd_ne (ne_of_none hg hD)]
            exact (s1.trans e16) g o hg
          · rw [upd_same, fl]
            show _ = some (HO.lst (List.map _ _))
            rw [List.map_append]
            rfl
        · rw [decide_eq_false fun z => hp2 (pi.mpr z)]
          obtain ⟨k1, k2⟩ := skip hp2
          exact iteF ⟨k1.trans e16, e16 _ _ k2⟩
      · rw [decide_eq_false hm]
        exact iteF (skip fun z => hm (by have := z.1; omega))
    rintro H5 ⟨s5, e5⟩
    have first : (natV ((List.range' 1 U.length).filter fun s => decide (Per U s)))[0]? = some (V.int (leastS U : Nat)) := nat_at (least_first u0)
    dsimp only [gName]
    have r5 := s5 _ _ hr4
    refine ⟨_, rfl, _, rfl, D, _, 0, _, rfl, rfl, .inl (.inl e5), atI_nat (j := 0) first, _, rfl, r, _, rfl, .inl (.inl r5), fun z hz => ?_⟩
    rw [cut_to]
    have e6 := same_new' (o := .lst (blV (U.take (leastS U)))) hz
    have hz6 : (upd H5 z (.lst (blV (U.take (leastS U))))) z = some (.lst (blV (U.take (leastS U)))) := upd_same
    generalize (upd H5 z (.lst (blV (U.take (leastS U))))) = H6 at e6 hz6
    have s06 := (s04.trans s5).trans e6
    have p6 := (s5.trans e6) _ _ hp4
    have lb : (blV B).length = B.length := List.length_map ..
    refine ⟨_, rfl, p, _, rfl, .inl (.inl (.inl p6)), _, rfl, by rw [lb]; omega, by rw [lb]; omega, ?_⟩
    rw [lb, Int.toNat_natCast]
    have fin : ∀ (u v : Addr) (y4 y5 : Option V) (H' : Hp), Same H H' → H' u = some (.lst (blV (plainF B U).1)) → H' v = some (.lst (blV (plainF B U).2)) →
        tRet (tTup (tCons (tVar 1) (tCons (tVar 2) tNil))) { nx := fun _ H' => Q .non H', rt := Q } [some (.ref a), some (.ref u), some (.ref v), some (.ref D), y4, y5] H' := fun u v y4 y5 H' e0 hu hv => by
      refine ⟨_, rfl, _, rfl, by rw [sizeLine_eq]; show 2 ≤ _; decide, fun t ht => ?_⟩
      have e7 := same_new' (o := .tup [.ref u, .ref v]) ht
      exact q _ _ (e0.trans e7) (.wd_of upd_same (e7 _ _ hu) (e7 _ _ hv))
    refine for_range (n := B.length) (fun i σ H' => Same H H' ∧ ∃ (u v : Addr) (y4 y5 : Option V), H' u = some (.lst (blV (stepsW i (B, U.take (leastS U))).1)) ∧ H' v = some (.lst (blV (stepsW i (B, U.take (leastS U))).2)) ∧
      σ = [some (.ref a), some (.ref u), some (.ref v), some (.ref D), y4, y5] ∧ (i < B.length → 0 < (stepsW i (B, U.take (leastS U))).1.length)) ⟨s06, p, z, _, _, p6, hz6, rfl, fun h => h⟩ ?_ ?_
    · rintro i σ H7 hi ⟨s7, u, v, y4, y5, hu, hv, rfl, some_⟩
      have some_ := some_ hi
      have small := stepsW_len i (B, U.take (leastS U))
      have last := stepsW_last i (B, U.take (leastS U))
      have halfS : Half (itemW B U) (stepsW i (B, U.take (leastS U))).1 (stepsW i (B, U.take (leastS U))).2 := Half.steps i (half_of (A := B) lo)
      have stop : (stepsW (i + 1) (B, U.take (leastS U))).1 = [] → plainF B U = stepsW (i + 1) (B, U.take (leastS U)) := fun e => by
        show stepsW B.length _ = _
        rw [show B.length = (i + 1) + (B.length - (i + 1)) by omega, stepsW_add, stepsW_nil _ _ e]
      have small2 : (U.take (leastS U)).length ≤ 1000 := by rw [List.length_take]; omega
      rw [last] at stop ⊢
      revert hu hv some_ small stop halfS
      generalize stepsW i (B, U.take (leastS U)) = W
      obtain ⟨C, Z⟩ := W
      intro hu hv some_ small halfS stop
      have hu : H7 u = some (.lst (blV C)) := hu
      have hv : H7 v = some (.lst (blV Z)) := hv
      have some_ : 0 < C.length := some_
      have z0 : 0 < Z.length := halfS.some
      have small : C.length ≤ B.length ∧ Z.length = (U.take (leastS U)).length := small
      have sC : SqL K H7 u (blV C) := .inl (.inl hu)
      have sZ : SqL K H7 v (blV Z) := .inl (.inl hv)
      have lC : (blV C).length = C.length := List.length_map ..
      have lZ : (blV Z).length = Z.length := List.length_map ..
      have eC : ((blV C).length : Int) - 1 = ((C.length - 1 : Nat) : Int) := by rw [lC]; omega
      have eZ : ((blV Z).length : Int) - 1 = ((Z.length - 1 : Nat) : Int) := by rw [lZ]; omega
      -- behind the step
      refine ⟨_, rfl, _, rfl, u, _, rfl, .inl sC, _, _, rfl, rfl, _, _, _, _, rfl, rfl, sC, (by rw [eC]; exact atI_nat (bl_at (by omega))), _, rfl, _, rfl, v, _, rfl, .inl sZ, _, _, rfl, rfl, _, _, _, _, rfl, rfl, sZ, (by rw [eZ]; exact atI_nat (bl_at (by omega))), rfl, _, rfl, ?_⟩
      by_cases heq : C.getD (C.length - 1) false = Z.getD (Z.length - 1) false
      · have ev : decide (V.bl (C.getD (C.length - 1) false) = V.bl (Z.getD (Z.length - 1) false)) = true := decide_eq_true (by rw [heq])
        rw [ev]
        have eW : stepW (C, Z) = (C.take (C.length - 1), Z.drop (Z.length - 1) ++ Z.take (Z.length - 1)) := by
          unfold stepW
          rw [if_neg (show ¬ (C, Z).1.length = 0 by show ¬ C.length = 0; omega), if_pos heq]
        refine iteT ⟨_, rfl, _, rfl, u, _, rfl, .inl sC, _, _, rfl, rfl, _, rfl, u, _, rfl, sC, fun p1 hp1 => ?_⟩
        rw [eC, cut_to]
        have f1 := same_new' (o := .lst (blV (C.take (C.length - 1)))) hp1
        have g1 : (upd H7 p1 (.lst (blV (C.take (C.length - 1))))) p1 = some (.lst (blV (C.take (C.length - 1)))) := upd_same
        generalize (upd H7 p1 (.lst (blV (C.take (C.length - 1))))) = J1 at f1 g1
        refine ⟨_, rfl, _, rfl, v, _, rfl, .inl (.inl (.inl (f1 _ _ hv))), _, _, rfl, rfl, _, rfl, v, _, rfl, .inl (.inl (f1 _ _ hv)), fun p2 hp2 => ?_⟩
        rw [eZ, cut_from Z (by omega)]
        have f2 := same_new' (o := .lst (blV (Z.drop (Z.length - 1)))) hp2
        have g2 : (upd J1 p2 (.lst (blV (Z.drop (Z.length - 1))))) p2 = some (.lst (blV (Z.drop (Z.length - 1)))) := upd_same
        generalize (upd J1 p2 (.lst (blV (Z.drop (Z.length - 1))))) = J2 at f2 g2
        have hv2 := f2 _ _ (f1 _ _ hv)
        refine ⟨_, rfl, _, rfl, v, _, rfl, .inl (.inl (.inl hv2)), _, _, rfl, rfl, _, rfl, v, _, rfl, .inl (.inl hv2), fun p3 hp3 => ?_⟩
        rw [eZ, cut_to]
        have f3 := same_new' (o := .lst (blV (Z.take (Z.length - 1)))) hp3
        have g3 : (upd J2 p3 (.lst (blV (Z.take (Z.length - 1))))) p3 = some (.lst (blV (Z.take (Z.length - 1)))) := upd_same
        generalize (upd J2 p3 (.lst (blV (Z.take (Z.length - 1))))) = J3 at f3 g3
        refine ⟨p2, p3, _, _, rfl, rfl, f3 _ _ g2, g3, by rw [List.length_map, List.length_map, List.length_drop, List.length_take, sizeLine_eq]; omega, fun p4 hp4 => ?_⟩
        rw [show blV (Z.drop (Z.length - 1)) ++ blV (Z.take (Z.length - 1)) = blV (Z.drop (Z.length - 1) ++ Z.take (Z.length - 1)) from (List.map_append ..).symm]
        have f4 := same_new' (o := .lst (blV (Z.drop (Z.length - 1) ++ Z.take (Z.length - 1)))) hp4
        have g4 : (upd J3 p4 (.lst (blV (Z.drop (Z.length - 1) ++ Z.take (Z.length - 1))))) p4 = some (.lst (blV (Z.drop (Z.length - 1) ++ Z.take (Z.length - 1)))) := upd_same
        generalize (upd J3 p4 (.lst (blV (Z.drop (Z.length - 1) ++ Z.take (Z.length - 1))))) = J4 at f4 g4
        refine ⟨by rw [sizeLine_eq]; show 2 ≤ _; decide, fun p5 hp5 => ?_⟩
        have f5 := same_new' (o := .tup [.ref p1, .ref p4]) hp5
        have g5 : (upd J4 p5 (.tup [.ref p1, .ref p4])) p5 = some (.tup [.ref p1, .ref p4]) := upd_same
        generalize (upd J4 p5 (.tup [.ref p1, .ref p4])) = J5 at f5 g5
        refine ⟨p5, _, rfl, .inl (.inl g5), rfl, _, _, rfl, _, _, rfl, rfl, ?_⟩
        have s8 := s7.trans ((f1.trans f2).trans ((f3.trans f4).trans f5))
        have hu8 := ((f2.trans f3).trans (f4.trans f5)) _ _ g1
        have hv8 := f5 _ _ g4
        refine ⟨_, rfl, Nat.zero_le _, fun e he => ?_⟩
        have e9 := same_new' (o := .lst []) he
        refine eq_bls (l := (C.take (C.length - 1))) (m := []) (e9 _ _ hu8) upd_same ⟨_, rfl, ?_⟩
        by_cases hn : (C.take (C.length - 1)) = []
        · rw [decide_eq_true hn]
          have sp := stop (by rw [eW]; exact hn)
          rw [eW] at sp
          exact iteT (fin _ _ _ _ _ (s8.trans e9) (by rw [sp]; exact e9 _ _ hu8) (by rw [sp]; exact e9 _ _ hv8))
        · rw [decide_eq_false hn]
          exact iteF ⟨s8.trans e9, _, _, _, _, (by rw [eW]; exact e9 _ _ hu8), (by rw [eW]; exact e9 _ _ hv8), rfl, fun _ => by rw [eW]; exact List.length_pos_iff.mpr hn⟩
      · have ev : decide (V.bl (C.getD (C.length - 1) false) = V.bl (Z.getD (Z.length - 1) false)) = false := decide_eq_false fun z => heq (by injection z)
        rw [ev]
        have eW : stepW (C, Z) = (C, Z) := stepW_done (p := (C, Z)) fun _ => heq
        have s8 := s7
        have hu8 := hu
        have hv8 := hv
        refine iteF ?_
        refine ⟨_, rfl, Nat.zero_le _, fun e he => ?_⟩
        have e9 := same_new' (o := .lst []) he
        refine eq_bls (l := C) (m := []) (e9 _ _ hu8) upd_same ⟨_, rfl, ?_⟩
        by_cases hn : C = []
        · rw [decide_eq_true hn]
          have sp := stop (by rw [eW]; exact hn)
          rw [eW] at sp
          exact iteT (fin _ _ _ _ _ (s8.trans e9) (by rw [sp]; exact e9 _ _ hu8) (by rw [sp]; exact e9 _ _ hv8))
        · rw [decide_eq_false hn]
          exact iteF ⟨s8.trans e9, _, _, _, _, (by rw [eW]; exact e9 _ _ hu8), (by rw [eW]; exact e9 _ _ hv8), rfl, fun _ => by rw [eW]; exact List.length_pos_iff.mpr hn⟩
    · rintro σ H7 ⟨s7, u, v, y4, y5, hu, hv, rfl, _⟩
      exact fin u v y4 y5 H7 s7 hu hv

def spSet : Sp := fun vs H Q _ => ∃ (a : Addr) (t m : Int) (most : Nat), vs = [.ref a, .int most] ∧ Gn a t m H ∧ m + 9000 < 4294967296 ∧ 1 ≤ most ∧ most ≤ 30 ∧
  ∀ (x : V) (A T : List Bool) (H' : Hp), SameX a H H' → Gn a t (m + 8000) H' → Dt (off a H') x (wdD A T) → A.length < most → 0 < T.length → T.length ≤ most → Q x H'
theorem ok_law_set (T : Tx K mg) : FnG P w K mg base CX0 3 T.a_law_set T.d_law_set ["_law_generator_here", "_law_most"] spSet := by
  have G_law_random := ok_rnd (P := P) (w := w) (base := base) T
  refine bodyG0 T.F_law_set sc_law_set (fun vs H Q E h => ?_) (fun cdv A outer s H vs Q E gd hr h => ?_)
  · obtain ⟨a, t, m, most, rfl, _⟩ := h; rfl
  · obtain ⟨a, t, m, most, rfl, g0, hm, m1, m2, q⟩ := h
    refine ⟨_, (pss_cons (ps_setLc (i := 2) (own := [("_law_step", 3)]) (g := gName 3) (tt := tYes) rfl sc_law_set.nd rfl rfl (sw_true rfl rfl rfl (by decide +kernel)) (pi_range1 (by rfl) T.z_range (pa_cons (pe_g G_law_random gd (hr.mono (by decide)) (by rfl) T.g_law_random T.F_law_random.kp T.b_law_random .nil pass0 (pa_cons (pv 0) (pa_cons (pv 1) pa_nil))) pa_nil)) (blkOk_by (N := ["_law_generator_here", "_law_most", "_law_ahead", "_law_step"]) (sc := defScope s_law_set) (by decide +kernel)) (fun _ _ _ _ _ => (pg_name (i := 3) sc_law_set.nd rfl (Or.inl rfl))) (fun _ _ _ _ _ => pts_nil) (fun _ _ _ _ _ => (pe_cmpR op_eq (pe_g G_law_random gd (hr.mono (by decide)) (by rfl) T.g_law_random T.F_law_random.kp T.b_law_random .nil pass0 (pa_cons (pv 0) (pa_cons pe_int pa_nil))) pe_int (nomark _))))
      (pss_one (ps_ret (pe_tup (pa_cons (pv 2) (pa_cons (pe_lc (own := [("_law_step", 3)]) (g := gName 3) (tt := tYes) rfl sc_law_set.nd (pi_range1 (by rfl) T.z_range (pa_cons (pe_op op_add pe_int (pe_g G_law_random gd (hr.mono (by decide)) (by rfl) T.g_law_random T.F_law_random.kp T.b_law_random .nil pass0 (pa_cons (pv 0) (pa_cons (pv 1) pa_nil)))) pa_nil)) (blkOk_by (N := ["_law_generator_here", "_law_most", "_law_ahead", "_law_step"]) (sc := defScope s_law_set) (by decide +kernel)) (fun _ _ _ _ _ => (pg_name (i := 3) sc_law_set.nd rfl (Or.inl rfl))) (fun _ _ _ _ _ => pts_nil) (fun _ _ _ _ _ => (pe_cmpR op_eq (pe_g G_law_random gd (hr.mono (by decide)) (by rfl) T.g_law_random T.F_law_random.kp T.b_law_random .nil pass0 (pa_cons (pv 0) (pa_cons pe_int pa_nil))) pe_int (nomark _)))) pa_nil)))))), ?_⟩
    have sm : ∀ {b : Nat}, b ≤ 1000 → b < 2 ^ 2000 := fun {b} hb => by
      have : (1000 : Nat) < 2 ^ 2000 := by decide +kernel
      omega
    refine ⟨_, rfl, _, rfl, a, most, t, m, rfl, g0, by omega, by omega, sm (by omega), fun n H1 hn x1 g1 => ?_⟩
    refine ⟨n, rfl, by omega, by omega, fun D hD => ?_⟩
    have nDa := g1.ne hD
    rw [Int.toNat_natCast]
    refine lc_range (lo := 0) (n := n) (fun j H' => SameX a H1 H' ∧ Gn a t (m + 100 + 100 * j) H' ∧ ∃ l : List Bool, H' D = some (.lst (blV l)) ∧ l.length = j) ⟨SameX.of (same_new' hD), (g1.same (same_new' hD)).up (by omega), [], upd_same, rfl⟩ ?_ ?_
    · rintro j H5 hj ⟨x5, g5, l, e5, le5⟩
      refine ⟨rfl, yes_if ?_⟩
      refine ⟨_, rfl, a, 2, t, _, rfl, g5, by omega, by decide, sm (by decide), fun r2 H6 hr2 x6 g6 => ?_⟩
      refine ⟨rfl, blV l, x6 _ _ nDa e5, by rw [List.length_map]; exact small1000 (by omega), SameX.new (x5.trans x6) hD, (g6.keep nDa).up (by omega), l ++ [decide (V.int (r2 : Int) = V.int 0)], ?_, by rw [List.length_append, le5]; rfl⟩
      rw [upd_same, blV_snoc]
    rintro H5 ⟨x5, g5, B, eB, lB⟩
    have x05 := x1.trans x5
    dsimp only [gName]
    refine ⟨_, rfl, _, rfl, _, rfl, a, most, t, _, rfl, g5, by omega, by omega, sm (by omega), fun n2 H6 hn2 x6 g6 => ?_⟩
    have eB6 := x6 _ _ nDa eB
    refine ⟨_, _, rfl, rfl, ((1 + n2 : Nat) : Int), (by rw [show ((1 + n2 : Nat) : Int) = 1 + (n2 : Int) by omega]), by omega, by omega, fun D2 hD2 => ?_⟩
    have nD2 := g6.ne hD2
    rw [Int.toNat_natCast]
    refine lc_range (lo := 0) (n := 1 + n2) (fun j H' => SameX a H6 H' ∧ Gn a t (m + 100 + 100 * n + 100 + 100 * j) H' ∧ ∃ l : List Bool, H' D2 = some (.lst (blV l)) ∧ l.length = j) ⟨SameX.of (same_new' hD2), (g6.same (same_new' hD2)).up (by omega), [], upd_same, rfl⟩ ?_ ?_
    · rintro j H7 hj ⟨x7, g7, l, e7, le7⟩
      refine ⟨rfl, yes_if ?_⟩
      refine ⟨_, rfl, a, 2, t, _, rfl, g7, by omega, by decide, sm (by decide), fun r2 H8 hr2 x8 g8 => ?_⟩
      refine ⟨rfl, blV l, x8 _ _ nD2 e7, by rw [List.length_map]; exact small1000 (by omega), SameX.new (x7.trans x8) hD2, (g8.keep nD2).up (by omega), l ++ [decide (V.int (r2 : Int) = V.int 0)], ?_, by rw [List.length_append, le7]; rfl⟩
      rw [upd_same, blV_snoc]
    rintro H7 ⟨x7, g7, U, eU, lU⟩
    have eB7 := x7 _ _ nDa eB6
    refine ⟨by rw [sizeLine_eq]; show 2 ≤ _; decide, fun p hp => ?_⟩
    have e8 := same_new' (o := .tup [.ref D, .ref D2]) hp
    have np := g7.ne hp
    refine q _ B U _ (SameX.trans ((x05.trans x6).trans x7) (SameX.of e8)) ((g7.same e8).up (by omega)) (.wd_of (off_of np upd_same) (off_of nDa (e8 _ _ eB7)) (off_of nD2 (e8 _ _ eU))) (by omega) (by omega) (by omega)

def spLong : Sp := fun vs H Q _ => ∃ (a : Addr) (t m : Int) (x : V) (A T : List Bool), vs = [.ref a, x] ∧ Gn a t m H ∧ m + 9000 < 4294967296 ∧ Dt (off a H) x (wdD A T) ∧ 0 < T.length ∧ T.length ≤ 30 ∧ A.length ≤ 30 ∧
  ∀ (y : V) (A' T' : List Bool) (H' : Hp), SameX a H H' → Gn a t (m + 1000) H' → Dt (off a H') y (wdD A' T') → 0 < T'.length → T'.length ≤ 90 → A'.length ≤ 35 → (∀ n, itemW A' T' n = itemW A T n) → Q y H'
theorem ok_law_put_longer (T : Tx K mg) : FnG P w K mg base CX0 3 T.a_law_put_longer T.d_law_put_longer ["_law_generator_here", "_law_told"] spLong := by
  have G_law_random := ok_rnd (P := P) (w := w) (base := base) T
  refine bodyG0 T.F_law_put_longer sc_law_put_longer (fun vs H Q E h => ?_) (fun cdv A outer s H vs Q E gd hr h => ?_)
  · obtain ⟨a, t, m, x, B, U, rfl, _⟩ := h; rfl
  · obtain ⟨a, t, m, x, B, U, rfl, g0, hm, hx, u0, u1, b1, q⟩ := h
    refine ⟨_, (pss_cons (ps_par (i := 2) (j := 3) rfl sc_law_put_longer.nd rfl rfl (by decide) rfl rfl (pa_cons (pe_callTy (call_listK (K := K) rfl) (by rfl) T.z_list (by decide +kernel) (pa_cons (pe_ix (ix_tupK (K := K) rfl) (pv 1) pe_int (fun _ _ => rfl)) pa_nil)) (pa_cons (pe_callTy (call_listK (K := K) rfl) (by rfl) T.z_list (by decide +kernel) (pa_cons (pe_ix (ix_tupK (K := K) rfl) (pv 1) pe_int (fun _ _ => rfl)) pa_nil)) pa_nil)) (by rfl))
      (pss_cons (ps_for PassesOwn.never rfl (pi_range1 (by rfl) T.z_range (pa_cons (pe_g G_law_random gd (hr.mono (by decide)) (by rfl) T.g_law_random T.F_law_random.kp T.b_law_random .nil pass0 (pa_cons (pv 0) (pa_cons pe_int pa_nil))) pa_nil)) (pg_name (i := 4) sc_law_put_longer.nd rfl (Or.inl rfl)) (pss_one (ps_par (i := 2) (j := 3) rfl sc_law_put_longer.nd rfl rfl (by decide) rfl rfl (pa_cons (pe_op op_cat (pv 2) (pe_slice (sl_listK (K := K) rfl) (pv 3) po_none (po_some pe_int))) (pa_cons (pe_op op_cat (pe_slice (sl_listK (K := K) rfl) (pv 3) (po_some pe_int) po_none) (pe_slice (sl_listK (K := K) rfl) (pv 3) po_none (po_some pe_int))) pa_nil)) (by rfl))))
      (pss_one (ps_ret (pe_tup (pa_cons (pv 2) (pa_cons (pe_op op_rep (pv 3) (pe_op op_add pe_int (pe_g G_law_random gd (hr.mono (by decide)) (by rfl) T.g_law_random T.F_law_random.kp T.b_law_random .nil pass0 (pa_cons (pv 0) (pa_cons pe_int pa_nil))))) pa_nil))))))), ?_⟩
    have sm : ∀ {b : Nat}, b ≤ 1000 → b < 2 ^ 2000 := fun {b} hb => by
      have : (1000 : Nat) < 2 ^ 2000 := by decide +kernel
      omega
    obtain ⟨c, p0, q0, rfl, hc, hp0, hq0⟩ := hx.on.wd
    refine ⟨_, rfl, c, _, 0, _, rfl, rfl, .inl (.inl hc), rfl, p0, _, rfl, .inl (.inl (.inl hp0)), fun p hp => ?_⟩
    have e1 := same_new' (o := .lst (blV B)) hp
    have hp1 : (upd H p (.lst (blV B))) p = some (.lst (blV B)) := upd_same
    have np := g0.ne hp
    have g1 := g0.same e1
    generalize (upd H p (.lst (blV B))) = H1 at e1 hp1 g1
    refine ⟨_, rfl, c, _, 1, _, rfl, rfl, .inl (.inl (e1 _ _ hc)), rfl, q0, _, rfl, .inl (.inl (.inl (e1 _ _ hq0))), fun r hr' => ?_⟩
    have e2 := same_new' (o := .lst (blV U)) hr'
    have hr2 : (upd H1 r (.lst (blV U))) r = some (.lst (blV U)) := upd_same
    have nr := g1.ne hr'
    have g2 := g1.same e2
    generalize (upd H1 r (.lst (blV U))) = H2 at e2 hr2 g2
    refine ⟨_, _, rfl, ?_⟩
    have x2 : SameX a H H2 := SameX.of (e1.trans e2)
    refine ⟨_, rfl, a, 5, t, _, rfl, g2, by omega, by decide, sm (by decide), fun n H3 hn x3 g3 => ?_⟩
    refine ⟨n, rfl, by omega, by omega, ?_⟩
    rw [Int.toNat_natCast]
    refine for_range (n := n) (fun i σ H' => SameX a H H' ∧ Gn a t (m + 100) H' ∧ ∃ (u v : Addr) (C Z : List Bool) (y4 : Option V), H' u = some (.lst (blV C)) ∧ H' v = some (.lst (blV Z)) ∧ u ≠ a ∧ v ≠ a ∧ C.length = B.length + i ∧ Z.length = U.length ∧ (∀ w, itemW C Z w = itemW B U w) ∧
      σ = [some (.ref a), some (.ref c), some (.ref u), some (.ref v), y4]) ⟨x2.trans x3, g3, p, r, B, U, _, x3 _ _ np (e2 _ _ hp1), x3 _ _ nr hr2, np, nr, rfl, rfl, fun _ => rfl, rfl⟩ ?_ ?_
    · rintro i σ H4 hi ⟨x4, g4, u, v, C, Z, y4, hu, hv, nu, nv, lC, lZ, same, rfl⟩
      have z0 : 0 < Z.length := by omega
      refine ⟨_, rfl, _, rfl, 1, rfl, v, _, rfl, .inl (.inl hv), fun j1 hj1 => ?_⟩
      rw [show cutV (blV Z) none (some 1) = blV (Z.take 1) from cut_to Z 1]
      have f1 := same_new' (o := .lst (blV (Z.take 1))) hj1
      have k1 : (upd H4 j1 (.lst (blV (Z.take 1)))) j1 = some (.lst (blV (Z.take 1))) := upd_same
      generalize (upd H4 j1 (.lst (blV (Z.take 1)))) = J1 at f1 k1
      have t1 : (Z.take 1).length ≤ 1 := by rw [List.length_take]; omega
      refine ⟨u, j1, _, _, rfl, rfl, f1 _ _ hu, k1, by rw [List.length_map, List.length_map, sizeLine_eq]; omega, fun j2 hj2 => ?_⟩
      rw [show blV C ++ blV (Z.take 1) = blV (C ++ Z.take 1) from (List.map_append ..).symm]
      have f2 := same_new' (o := .lst (blV (C ++ Z.take 1))) hj2
      have k2 : (upd J1 j2 (.lst (blV (C ++ Z.take 1)))) j2 = some (.lst (blV (C ++ Z.take 1))) := upd_same
      generalize (upd J1 j2 (.lst (blV (C ++ Z.take 1)))) = J2 at f2 k2
      have hv2 := f2 _ _ (f1 _ _ hv)
      refine ⟨_, rfl, 1, rfl, v, _, rfl, .inl (.inl hv2), fun j3 hj3 => ?_⟩
      rw [show cutV (blV Z) (some 1) none = blV (Z.drop 1) from cut_from Z (n := 1) (by omega)]
      have f3 := same_new' (o := .lst (blV (Z.drop 1))) hj3
      have k3 : (upd J2 j3 (.lst (blV (Z.drop 1)))) j3 = some (.lst (blV (Z.drop 1))) := upd_same
      generalize (upd J2 j3 (.lst (blV (Z.drop 1)))) = J3 at f3 k3
      refine ⟨_, rfl, 1, rfl, v, _, rfl, .inl (.inl (f3 _ _ hv2)), fun j4 hj4 => ?_⟩
      rw [show cutV (blV Z) none (some 1) = blV (Z.take 1) from cut_to Z 1]
      have f4 := same_new' (o := .lst (blV (Z.take 1))) hj4
      have k4 : (upd J3 j4 (.lst (blV (Z.take 1)))) j4 = some (.lst (blV (Z.take 1))) := upd_same
      generalize (upd J3 j4 (.lst (blV (Z.take 1)))) = J4 at f4 k4
      refine ⟨j3, j4, _, _, rfl, rfl, f4 _ _ k3, k4, by rw [List.length_map, List.length_map, List.length_drop, sizeLine_eq]; omega, fun j5 hj5 => ?_⟩
      rw [show blV (Z.drop 1) ++ blV (Z.take 1) = blV (Z.drop 1 ++ Z.take 1) from (List.map_append ..).symm]
      have f5 := same_new' (o := .lst (blV (Z.drop 1 ++ Z.take 1))) hj5
      have f14 := (f1.trans f2).trans (f3.trans f4)
      have n2 : j2 ≠ a := (g4.same f1).ne hj2
      have n5 : j5 ≠ a := (g4.same f14).ne hj5
      have ll := longW_len (C, Z) z0
      refine ⟨_, _, rfl, x4.trans (SameX.of (f14.trans f5)), g4.same (f14.trans f5), j2, j5, (longW (C, Z)).1, (longW (C, Z)).2, _, ((f3.trans f4).trans f5) _ _ k2, upd_same, n2, n5, ?_, ?_, fun w => ?_, rfl⟩
      · rw [ll.1]; show C.length + 1 = _; omega
      · rw [ll.2]; exact lZ
      · rw [longW_item (C, Z) z0 w]; exact same w
    · rintro σ H4 ⟨x4, g4, u, v, C, Z, y4, hu, hv, nu, nv, lC, lZ, same, rfl⟩
      refine ⟨_, rfl, _, rfl, _, rfl, a, 3, t, _, rfl, g4, by omega, by decide, sm (by decide), fun n2 H5 hn2 x5 g5 => ?_⟩
      refine ⟨_, _, rfl, rfl, ?_⟩
      have ek : (1 : Int) + (n2 : Int) = ((1 + n2 : Nat) : Int) := by omega
      dsimp only
      rw [ek]
      have hv5 := x5 _ _ nv hv
      have hu5 := x5 _ _ nu hu
      refine ⟨v, _, _, rfl, rfl, hv5, by omega, by omega, by rw [List.length_map, Int.toNat_natCast, sizeLine_eq]; have := Nat.mul_le_mul (show Z.length ≤ 30 by omega) (show 1 + n2 ≤ 3 by omega); omega, fun j hj => ?_⟩
      rw [Int.toNat_natCast, blV_rep]
      have f1 := same_new' (o := .lst (blV (List.replicate (1 + n2) Z).flatten)) hj
      have nj := g5.ne hj
      have g6 := g5.same f1
      have k1 : (upd H5 j (.lst (blV (List.replicate (1 + n2) Z).flatten))) j = some (.lst (blV (List.replicate (1 + n2) Z).flatten)) := upd_same
      generalize (upd H5 j (.lst (blV (List.replicate (1 + n2) Z).flatten))) = J1 at f1 k1 g6
      refine ⟨by rw [sizeLine_eq]; show 2 ≤ _; decide, fun p5 hp5 => ?_⟩
      have f2 := same_new' (o := .tup [.ref u, .ref j]) hp5
      have n5 := g6.ne hp5
      have lr := len_rep (T := Z) (1 + n2)
      have lb := Nat.mul_le_mul (show 1 + n2 ≤ 3 by omega) (show Z.length ≤ 30 by omega)
      have lp : 0 < (1 + n2) * Z.length := Nat.mul_pos (by omega) (by omega)
      exact q _ C (List.replicate (1 + n2) Z).flatten _ ((x4.trans x5).trans (SameX.of (f1.trans f2))) ((g6.same f2).up (by omega)) (.wd_of (off_of n5 upd_same) (off_of nu (f2 _ _ (f1 _ _ hu5))) (off_of nj (f2 _ _ k1))) (by omega) (by omega) (by omega) (fun w => by rw [item_rep (by omega) (by omega) w]; exact same w)

end

end K41

set_option Elab.async false
set_option linter.all false
set_option maxRecDepth 100000
set_option maxHeartbeats 4000000
namespace K41
open PySem PySem.Spec PyProof.Rows L2 Hw
section
variable {P : Program} {w : World} {K : PySem.W.Frag} {mg : Str → Option Value} {base : Heap}

theorem nat_cast_max (a b : Nat) : (if ((b : Nat) : Int) > (a : Nat) then ((b : Nat) : Int) else (a : Nat)) = ((max a b : Nat) : Int) := by
  split <;> omega
theorem ok_is_count_to (T : Tx K mg) : FnG P w K mg base CX0 2 T.a_is_count_to T.d_is_count_to ["value", "most"] (fun vs H Q _ => ∃ i n : Nat, vs = [.int i, .int n] ∧ i ≤ n ∧ Q (.bl true) H) := by
  have G_is_whole := ok_is_whole (P := P) (w := w) (base := base) T
  refine bodyG0 T.F_is_count_to sc_is_count_to (fun vs H Q E h => ?_) (fun cdv A outer s H vs Q E gd hr h => ?_)
  · obtain ⟨i, n, rfl, _⟩ := h; rfl
  · obtain ⟨i, n, rfl, hi, q⟩ := h
    refine ⟨_, (pss_one (ps_ret (pe_and (pe_g G_is_whole gd (hr.mono (by decide)) (by rfl) T.g_is_whole T.F_is_whole.kp T.b_is_whole .nil pass0 (pa_cons (pv 0) pa_nil)) (pe_one (pe_chain op_le op_le pe_int (pv 0) (pv 1)))))), ?_⟩
    refine ⟨_, rfl, i, rfl, _, rfl, iteT ?_⟩
    refine ⟨_, rfl, _, _, rfl, rfl, _, rfl, ?_⟩
    rw [decide_eq_true (show (0 : Int) ≤ (i : Int) by omega)]
    refine iteT ⟨_, rfl, _, _, rfl, rfl, ?_⟩
    have e : decide ((i : Int) ≤ (n : Int)) = true := decide_eq_true (by omega)
    rw [← e] at q
    exact q
theorem way_and : wayW "and" = fun a b => a && b := by funext a b; rfl
theorem way_or : wayW "or" = fun a b => a || b := by funext a b; unfold wayW; rw [if_neg (by decide +kernel), if_pos rfl]
theorem way_un : wayW "unlike" = fun a b => a != b := by funext a b; unfold wayW; rw [if_neg (by decide +kernel), if_neg (by decide +kernel)]
/-- one of the three ways -/
def IsWay (x : Str) : Prop := x = "and" ∨ x = "or" ∨ x = "unlike"
def spAre : Sp := fun vs H Q _ => ∃ (x : Str) (a b : Bool), vs = [.str x, .bl a, .bl b] ∧ Q (.bl (wayW x a b)) H
theorem dec_str (x y : Str) : decide (V.str x = V.str y) = decide (x = y) := by
  by_cases h : x = y
  · rw [decide_eq_true h, decide_eq_true (by rw [h])]
  · rw [decide_eq_false h, decide_eq_false fun z => h (by injection z)]
theorem dec_bl (a b : Bool) : (!decide (V.bl a = V.bl b)) = (a != b) := by cases a <;> cases b <;> rfl
theorem ok_are_joined (T : Tx K mg) : FnG P w K mg base CX0 1 T.a_are_joined T.d_are_joined ["way", "one", "other"] spAre := by
  refine bodyG0 T.F_are_joined sc_are_joined (fun vs H Q E h => ?_) (fun cdv A outer s H vs Q E gd hr h => ?_)
  · obtain ⟨x, a, b, rfl, _⟩ := h; rfl
  · obtain ⟨x, a, b, rfl, q⟩ := h
    refine ⟨_, (pss_cons (ps_if (pt_cmpR op_eq (pv 0) pe_str (nomark _)) (pss_one (ps_ret (pe_and (pv 1) (pe_one (pv 2))))) pss_nil)
      (pss_cons (ps_if (pt_cmpR op_eq (pv 0) pe_str (nomark _)) (pss_one (ps_ret (pe_or (pv 1) (pe_one (pv 2))))) pss_nil)
      (pss_one (ps_ret (pe_cmpR op_ne (pv 1) (pv 2) (nomark _)))))), ?_⟩
    unfold wayW at q
    refine ⟨_, rfl, rfl, _, rfl, ?_⟩
    rw [dec_str]
    by_cases h : x = "and"
    · rw [if_pos h] at q
      rw [decide_eq_true h]
      refine iteT ⟨_, rfl, _, rfl, ?_⟩
      cases a with
      | true => exact iteT ⟨_, rfl, q⟩
      | false => exact iteF q
    · rw [if_neg h] at q
      rw [decide_eq_false h]
      refine iteF ⟨_, rfl, rfl, _, rfl, ?_⟩
      rw [dec_str]
      by_cases h2 : x = "or"
      · rw [if_pos h2] at q
        rw [decide_eq_true h2]
        refine iteT ⟨_, rfl, _, rfl, ?_⟩
        cases a with
        | true => exact iteT q
        | false => exact iteF ⟨_, rfl, q⟩
      · rw [if_neg h2] at q
        rw [decide_eq_false h2]
        refine iteF ⟨_, rfl, _, rfl, rfl, ?_⟩
        rw [← dec_bl] at q
        exact q
def spCommon : Sp := fun vs H Q _ => ∃ (x y : V) (A T A' T' : List Bool), vs = [x, y] ∧ WdOk H x A T ∧ WdOk H y A' T' ∧ ∀ (p : Addr) (H' : Hp), Same H H' → H' p = some (.tup [.int (max A.length A'.length : Nat), .int (Nat.lcm T.length T'.length : Nat)]) → Q (.ref p) H'
theorem ok_common_lengths (T : Tx K mg) : FnG P w K mg base CX0 1 T.a_common_lengths T.d_common_lengths ["one", "other"] spCommon := by
  refine bodyG0 T.F_common_lengths sc_common_lengths (fun vs H Q E h => ?_) (fun cdv A outer s H vs Q E gd hr h => ?_)
  · obtain ⟨x, y, B, U, B2, U2, rfl, _⟩ := h; rfl
  · obtain ⟨x, y, B, U, B2, U2, rfl, ok, ok2, q⟩ := h
    refine ⟨_, (pss_one (ps_ret (pe_tup (pa_cons (pe_callB (call_max2 rfl) (by rfl) T.z_max (by decide +kernel) (pa_cons (pe_callB (call_lenK (K := K) rfl) (by rfl) T.z_len (by decide +kernel) (pa_cons (pe_ix (ix_tupK (K := K) rfl) (pv 0) pe_int (fun _ _ => rfl)) pa_nil)) (pa_cons (pe_callB (call_lenK (K := K) rfl) (by rfl) T.z_len (by decide +kernel) (pa_cons (pe_ix (ix_tupK (K := K) rfl) (pv 1) pe_int (fun _ _ => rfl)) pa_nil)) pa_nil))) (pa_cons (pe_callBfun cr_lcm (by rfl) T.m_lcm (pa_cons (pe_callB (call_lenK (K := K) rfl) (by rfl) T.z_len (by decide +kernel) (pa_cons (pe_ix (ix_tupK (K := K) rfl) (pv 0) pe_int (fun _ _ => rfl)) pa_nil)) (pa_cons (pe_callB (call_lenK (K := K) rfl) (by rfl) T.z_len (by decide +kernel) (pa_cons (pe_ix (ix_tupK (K := K) rfl) (pv 1) pe_int (fun _ _ => rfl)) pa_nil)) pa_nil))) pa_nil))))), ?_⟩
    obtain ⟨a, b, c, rfl, ha, hb, hc⟩ := ok.dt.wd
    obtain ⟨a2, b2, c2, rfl, ha2, hb2, hc2⟩ := ok2.dt.wd
    have u1 := ok.t
    have u2 := ok2.t
    have lb : (blV B).length = B.length := List.length_map ..
    have lu : (blV U).length = U.length := List.length_map ..
    have lb2 : (blV B2).length = B2.length := List.length_map ..
    have lu2 : (blV U2).length = U2.length := List.length_map ..
    refine ⟨_, rfl, a, _, 0, _, rfl, rfl, .inl (.inl ha), rfl, b, _, rfl, .inl (.inl (.inl hb)), ?_⟩
    rw [lb]
    refine ⟨_, rfl, a2, _, 0, _, rfl, rfl, .inl (.inl ha2), rfl, b2, _, rfl, .inl (.inl (.inl hb2)), _, _, rfl, ?_⟩
    rw [lb2, nat_cast_max]
    refine ⟨_, rfl, a, _, 1, _, rfl, rfl, .inl (.inl ha), rfl, c, _, rfl, .inl (.inl (.inl hc)), ?_⟩
    rw [lu]
    refine ⟨_, rfl, a2, _, 1, _, rfl, rfl, .inl (.inl ha2), rfl, c2, _, rfl, .inl (.inl (.inl hc2)), _, _, rfl, by rw [Int.natAbs_natCast]; omega, by rw [lu2, Int.natAbs_natCast]; omega, ?_⟩
    rw [lu2, Int.natAbs_natCast, Int.natAbs_natCast]
    exact ⟨by rw [sizeLine_eq]; show 2 ≤ _; decide, fun p hp => q p _ (same_new' hp) upd_same⟩
theorem in_ways {x : Str} (h : IsWay x) : inV (.str x) waysV = true := by
  rcases h with rfl | rfl | rfl <;> decide +kernel
theorem lcm_le {a b : Nat} (h : a ≤ 1000) (h' : b ≤ 1000) : Nat.lcm a b ≤ 1000000 := Nat.le_trans (Nat.div_le_self _ _) (Nat.mul_le_mul h h')
theorem bl_take (l : List Bool) (n : Nat) : cutV (blV l) none (some (n : Int)) = blV (l.take n) := cut_to l n
def spJoin : Sp := fun vs H Q _ => ∃ (way : Str) (x y : V) (A T A' T' : List Bool), vs = [.str way, x, y] ∧ IsWay way ∧ WdOk H x A T ∧ WdOk H y A' T' ∧ Nat.lcm T.length T'.length ≤ 1000 ∧ newW (joinF (wayW way) A T A' T') H Q
theorem ok_joined_widths (T : Tx K mg) : FnG P w K mg base CX0 4 T.a_joined_widths T.d_joined_widths ["way", "one", "other"] spJoin := by
  have G_check_widths := ok_check_widths (P := P) (w := w) (base := base) T
  have G_common_lengths := ok_common_lengths (P := P) (w := w) (base := base) T
  have G_are_joined := ok_are_joined (P := P) (w := w) (base := base) T
  have G_is_in := ok_is_in (P := P) (w := w) (base := base) T
  have G_made_plain := ok_made_plain (P := P) (w := w) (base := base) T
  refine bodyG0 T.F_joined_widths sc_joined_widths (fun vs H Q E h => ?_) (fun cdv A outer s H vs Q E gd hr h => ?_)
  · obtain ⟨way, x, y, B, U, B2, U2, rfl, _⟩ := h; rfl
  · obtain ⟨way, x, y, B, U, B2, U2, rfl, hw, ok, ok2, sm, q⟩ := h
    refine ⟨_, (pss_cons (ps_if (pt_cmpR op_notIn_seq (pv 0) (C8.pe_gc (by rfl) T.c_WAYS) (by rfl)) (pss_one ps_never) pss_nil)
      (pss_cons (ps_expr (pe_g G_check_widths gd (hr.mono (by decide)) (by rfl) T.g_check_widths T.F_check_widths.kp T.b_check_widths .nil pass0 (pa_cons (pv 1) pa_nil)))
      (pss_cons (ps_expr (pe_g G_check_widths gd (hr.mono (by decide)) (by rfl) T.g_check_widths T.F_check_widths.kp T.b_check_widths .nil pass0 (pa_cons (pv 2) pa_nil)))
      (pss_cons (ps_asg (pe_g G_common_lengths gd (hr.mono (by decide)) (by rfl) T.g_common_lengths T.F_common_lengths.kp T.b_common_lengths .nil pass0 (pa_cons (pv 1) (pa_cons (pv 2) pa_nil))) (pg_tup (by rfl) (pgs_cons (pg_name (i := 3) sc_joined_widths.nd rfl (Or.inl rfl)) (pgs_cons (pg_name (i := 4) sc_joined_widths.nd rfl (Or.inl rfl)) pgs_nil))))
      (pss_cons (ps_setLc (i := 5) (own := [("width", 6)]) (g := gName 6) (tt := tYes) rfl sc_joined_widths.nd rfl rfl (sw_true rfl rfl rfl (by decide +kernel)) (pi_range1 (by rfl) T.z_range (pa_cons (pe_op op_add (pv 3) (pv 4)) pa_nil)) (blkOk_by (N := ["way", "one", "other", "ahead", "together", "told", "width"]) (sc := defScope s_joined_widths) (by decide +kernel)) (fun _ _ _ _ _ => (pg_name (i := 6) sc_joined_widths.nd rfl (Or.inl rfl))) (fun _ _ _ _ _ => pts_nil) (fun _ _ _ _ _ => (pe_g G_are_joined gd (hr.mono (by decide)) (by rfl) T.g_are_joined T.F_are_joined.kp T.b_are_joined .nil pass0 (pa_cons (pv 0) (pa_cons (pe_g G_is_in gd (hr.mono (by decide)) (by rfl) T.g_is_in T.F_is_in.kp T.b_is_in .nil pass0 (pa_cons (pv 1) (pa_cons (pv 6) pa_nil))) (pa_cons (pe_g G_is_in gd (hr.mono (by decide)) (by rfl) T.g_is_in T.F_is_in.kp T.b_is_in .nil pass0 (pa_cons (pv 2) (pa_cons (pv 6) pa_nil))) pa_nil))))))
      (pss_one (ps_ret (pe_g G_made_plain gd (hr.mono (by decide)) (by rfl) T.g_made_plain T.F_made_plain.kp T.b_made_plain .nil pass0 (pa_cons (pe_slice (sl_listK (K := K) rfl) (pv 5) po_none (po_some (pv 3))) (pa_cons (pe_slice (sl_listK (K := K) rfl) (pv 5) (po_some (pv 3)) po_none) pa_nil)))))))))), ?_⟩
    refine ⟨_, rfl, T.ways, waysV, rfl, .inr (.inr T.atWays), rfl, rfl, _, rfl, ?_⟩
    rw [in_ways hw]
    refine iteF ⟨_, rfl, x, B, U, rfl, ok, fun H1 e1 => ⟨_, rfl, y, B2, U2, rfl, ok2.to e1, fun H2 e2 => ⟨_, rfl, _, rfl, x, y, B, U, B2, U2, rfl, ok.to (e1.trans e2), ok2.to (e1.trans e2), fun p H3 e3 hp => ?_⟩⟩⟩
    have s3 := (e1.trans e2).trans e3
    have k1 := ok.to s3
    have k2 := ok2.to s3
    refine ⟨p, _, rfl, .inl (.inl hp), rfl, _, _, rfl, _, _, rfl, rfl, ?_⟩
    have b1 := ok.a
    have b2 := ok2.a
    have l0 := Nat.lcm_pos ok.pos ok2.pos
    have m0 : max B.length B2.length ≤ 1000 := by omega
    unfold joinF at q
    revert l0 m0 sm q
    generalize Nat.lcm U.length U2.length = t
    generalize max B.length B2.length = m
    intro sm q l0 m0
    refine ⟨_, rfl, _, rfl, _, _, rfl, rfl, ((m + t : Nat) : Int), rfl, by omega, by omega, fun D hD => ?_⟩
    rw [Int.toNat_natCast]
    refine lc_range (lo := 0) (n := m + t) (fun j H' => Same H3 H' ∧ H' D = some (.lst (blV (tellL (bothW (wayW way) B U B2 U2) j)))) ⟨same_new' hD, upd_same⟩ ?_ ?_
    · rintro j H4 hj ⟨e4, h4⟩
      rw [Int.zero_add]
      refine ⟨rfl, yes_if ⟨_, rfl, _, rfl, _, rfl, x, B, U, j, rfl, k1.dt.to e4, k1.pos, _, rfl, _, rfl, y, B2, U2, j, rfl, k2.dt.to e4, k2.pos, way, _, _, rfl, ?_⟩⟩
      refine ⟨_, h4, by rw [List.length_map, tellL_len, sizeLine_eq]; omega, fun b o hb => ?_, ?_⟩
      · rw [upd_ne (ne_of_none hb hD)]
        exact e4 b o hb
      · rw [upd_same, ← tellL_snoc]
        show _ = some (HO.lst (List.map _ _))
        rw [List.map_append]
        rfl
    rintro H4 ⟨e4, h4⟩
    dsimp only [gName]
    refine ⟨_, rfl, _, rfl, _, rfl, D, _, rfl, .inl (.inl h4), fun D2 hD2 => ?_⟩
    rw [bl_take, tell_take]
    have e5 := same_new' (o := .lst (blV (tellL (bothW (wayW way) B U B2 U2) m))) hD2
    have h5 : upd H4 D2 (.lst (blV (tellL (bothW (wayW way) B U B2 U2) m))) D2 = _ := upd_same
    have hD5 := e5 _ _ h4
    generalize (upd H4 D2 (.lst (blV (tellL (bothW (wayW way) B U B2 U2) m)))) = H5 at e5 h5 hD5
    refine ⟨_, rfl, _, rfl, _, rfl, D, _, rfl, .inl (.inl hD5), fun D3 hD3 => ?_⟩
    rw [show cutV (blV (tellL (bothW (wayW way) B U B2 U2) (m + t))) (some (m : Int)) none = blV ((tellL (bothW (wayW way) B U B2 U2) (m + t)).drop m) from cut_from _ (by rw [tellL_len]; omega), tell_drop]
    have e6 := same_new' (o := .lst (blV (tellL (fun i => bothW (wayW way) B U B2 U2 (m + i)) t))) hD3
    have s6 := s3.trans ((e4.trans e5).trans e6)
    exact ⟨D2, D3, _, _, rfl, e6 _ _ h5, upd_same, by rw [tellL_len]; exact l0, by rw [tellL_len]; omega, by rw [tellL_len]; omega, fun a b c H7 e7 na nb nc ne => q a b c H7 (s6.trans e7) (s6.free na) (s6.free nb) (s6.free nc) ne⟩
theorem notL_step {l : List Bool} {i : Nat} (h : i < l.length) : blV (notL (l.take i)) ++ [V.bl (!l.getD i false)] = blV (notL (l.take (i + 1))) := by
  rw [List.take_add_one, List.getElem?_eq_getElem h, getD_lt h]
  unfold notL
  rw [List.map_append]
  show _ = List.map _ _
  rw [List.map_append]
  rfl
def spTurn : Sp := fun vs H Q _ => ∃ (x : V) (A T : List Bool), vs = [x] ∧ WdOk H x A T ∧ newW (plainF (notL A) (notL T)) H Q
theorem ok_turned_widths (T : Tx K mg) : FnG P w K mg base CX0 4 T.a_turned_widths T.d_turned_widths ["widths"] spTurn := by
  have G_check_widths := ok_check_widths (P := P) (w := w) (base := base) T
  have G_made_plain := ok_made_plain (P := P) (w := w) (base := base) T
  refine bodyG0 T.F_turned_widths sc_turned_widths (fun vs H Q E h => ?_) (fun cdv A outer s H vs Q E gd hr h => ?_)
  · obtain ⟨x, B, U, rfl, _⟩ := h; rfl
  · obtain ⟨x, B, U, rfl, ok, q⟩ := h
    refine ⟨_, (pss_cons (ps_expr (pe_g G_check_widths gd (hr.mono (by decide)) (by rfl) T.g_check_widths T.F_check_widths.kp T.b_check_widths .nil pass0 (pa_cons (pv 0) pa_nil)))
      (pss_one (ps_ret (pe_g G_made_plain gd (hr.mono (by decide)) (by rfl) T.g_made_plain T.F_made_plain.kp T.b_made_plain .nil pass0 (pa_cons (pe_lc (own := [("told", 1)]) (g := gName 1) (tt := tYes) rfl sc_turned_widths.nd (pi_list (pe_ix (ix_tupK (K := K) rfl) (pv 0) pe_int (fun _ _ => rfl))) (blkOk_by (N := ["widths", "told"]) (sc := defScope s_turned_widths) (by decide +kernel)) (fun _ _ _ _ _ => (pg_name (i := 1) sc_turned_widths.nd rfl (Or.inl rfl))) (fun _ _ _ _ _ => pts_nil) (fun _ _ _ _ _ => (pe_not (pv 1)))) (pa_cons (pe_lc (own := [("told", 1)]) (g := gName 1) (tt := tYes) rfl sc_turned_widths.nd (pi_list (pe_ix (ix_tupK (K := K) rfl) (pv 0) pe_int (fun _ _ => rfl))) (blkOk_by (N := ["widths", "told"]) (sc := defScope s_turned_widths) (by decide +kernel)) (fun _ _ _ _ _ => (pg_name (i := 1) sc_turned_widths.nd rfl (Or.inl rfl))) (fun _ _ _ _ _ => pts_nil) (fun _ _ _ _ _ => (pe_not (pv 1)))) pa_nil)))))), ?_⟩
    refine ⟨_, rfl, x, B, U, rfl, ok, fun H1 e1 => ?_⟩
    have b1 := ok.a
    have u1 := ok.t
    have u0 := ok.pos
    obtain ⟨a, b, c, rfl, ha, hb, hc⟩ := (ok.to e1).dt.wd
    refine ⟨_, rfl, a, _, 0, _, rfl, rfl, .inl (.inl ha), rfl, b, rfl, ⟨_, .inl (.inl hb)⟩, fun D hD => ?_⟩
    refine lc_list (K := K) (a := b) (xs := blV B) (fun i Hz => Same H1 Hz ∧ Hz D = some (.lst (blV (notL (B.take i))))) ⟨same_new' hD, upd_same⟩ (fun i Hz _ e => .inl (.inl (e.1 _ _ hb))) ?_ ?_
    · rintro i y Hz hi ⟨s2, e2⟩
      obtain ⟨il, rfl⟩ := bl_get hi
      refine ⟨rfl, yes_if ⟨_, rfl, _, rfl, ?_⟩⟩
      refine ⟨_, e2, by rw [List.length_map, notL_len, List.length_take, sizeLine_eq]; omega, fun g o hg => ?_, ?_⟩
      · rw [upd_ne (ne_of_none hg hD)]
        exact s2 g o hg
      · rw [upd_same, notL_step il]
    rintro H2 ⟨s2, e2⟩
    rw [show (blV B).length = B.length from List.length_map .., List.take_length] at e2
    refine ⟨_, rfl, a, _, 1, _, rfl, rfl, .inl (.inl (s2 _ _ ha)), rfl, c, rfl, ⟨_, .inl (.inl (s2 _ _ hc))⟩, fun D2 hD2 => ?_⟩
    refine lc_list (K := K) (a := c) (xs := blV U) (fun i Hz => Same H2 Hz ∧ Hz D2 = some (.lst (blV (notL (U.take i))))) ⟨same_new' hD2, upd_same⟩ (fun i Hz _ e => .inl (.inl (e.1 _ _ (s2 _ _ hc)))) ?_ ?_
    · rintro i y Hz hi ⟨s3, e3⟩
      obtain ⟨il, rfl⟩ := bl_get hi
      refine ⟨rfl, yes_if ⟨_, rfl, _, rfl, ?_⟩⟩
      refine ⟨_, e3, by rw [List.length_map, notL_len, List.length_take, sizeLine_eq]; omega, fun g o hg => ?_, ?_⟩
      · rw [upd_ne (ne_of_none hg hD2)]
        exact s3 g o hg
      · rw [upd_same, notL_step il]
    rintro H3 ⟨s3, e3⟩
    rw [show (blV U).length = U.length from List.length_map .., List.take_length] at e3
    have s := e1.trans (s2.trans s3)
    exact ⟨D, D2, _, _, rfl, s3 _ _ e2, e3, by rw [notL_len]; exact u0, by rw [notL_len]; omega, by rw [notL_len]; omega, fun a b c H7 e7 na nb nc ne => q a b c H7 (s.trans e7) (s.free na) (s.free nb) (s.free nc) ne⟩
def spPart : Sp := fun vs H Q _ => ∃ (x y : V) (A T A' T' : List Bool), vs = [x, y] ∧ WdOk H x A T ∧ WdOk H y A' T' ∧ ∀ H', Same H H' → Q (optV (partF A T A' T')) H'
theorem ok_parting_width (T : Tx K mg) : FnG P w K mg base CX0 4 T.a_parting_width T.d_parting_width ["one", "other"] spPart := by
  have G_check_widths := ok_check_widths (P := P) (w := w) (base := base) T
  have G_common_lengths := ok_common_lengths (P := P) (w := w) (base := base) T
  have G_is_in := ok_is_in (P := P) (w := w) (base := base) T
  refine bodyG0 T.F_parting_width sc_parting_width (fun vs H Q E h => ?_) (fun cdv A outer s H vs Q E gd hr h => ?_)
  · obtain ⟨x, y, B, U, B2, U2, rfl, _⟩ := h; rfl
  · obtain ⟨x, y, B, U, B2, U2, rfl, ok, ok2, q⟩ := h
    refine ⟨_, (pss_cons (ps_expr (pe_g G_check_widths gd (hr.mono (by decide)) (by rfl) T.g_check_widths T.F_check_widths.kp T.b_check_widths .nil pass0 (pa_cons (pv 0) pa_nil)))
      (pss_cons (ps_expr (pe_g G_check_widths gd (hr.mono (by decide)) (by rfl) T.g_check_widths T.F_check_widths.kp T.b_check_widths .nil pass0 (pa_cons (pv 1) pa_nil)))
      (pss_cons (ps_asg (pe_g G_common_lengths gd (hr.mono (by decide)) (by rfl) T.g_common_lengths T.F_common_lengths.kp T.b_common_lengths .nil pass0 (pa_cons (pv 0) (pa_cons (pv 1) pa_nil))) (pg_tup (by rfl) (pgs_cons (pg_name (i := 2) sc_parting_width.nd rfl (Or.inl rfl)) (pgs_cons (pg_name (i := 3) sc_parting_width.nd rfl (Or.inl rfl)) pgs_nil))))
      (pss_cons (ps_for PassesOwn.never rfl (pi_range1 (by rfl) T.z_range (pa_cons (pe_op op_add (pv 2) (pv 3)) pa_nil)) (pg_name (i := 4) sc_parting_width.nd rfl (Or.inl rfl)) (pss_one (ps_if (pt_cmpR op_ne (pe_g G_is_in gd (hr.mono (by decide)) (by rfl) T.g_is_in T.F_is_in.kp T.b_is_in .nil pass0 (pa_cons (pv 0) (pa_cons (pv 4) pa_nil))) (pe_g G_is_in gd (hr.mono (by decide)) (by rfl) T.g_is_in T.F_is_in.kp T.b_is_in .nil pass0 (pa_cons (pv 1) (pa_cons (pv 4) pa_nil))) (nomark _)) (pss_one (ps_ret (pv 4))) pss_nil)))
      (pss_one (ps_ret pe_non)))))), ?_⟩
    refine ⟨_, rfl, x, B, U, rfl, ok, fun H1 e1 => ⟨_, rfl, y, B2, U2, rfl, ok2.to e1, fun H2 e2 => ⟨_, rfl, _, rfl, x, y, B, U, B2, U2, rfl, ok.to (e1.trans e2), ok2.to (e1.trans e2), fun p H3 e3 hp => ?_⟩⟩⟩
    have s3 := (e1.trans e2).trans e3
    have k1 := ok.to s3
    have k2 := ok2.to s3
    refine ⟨p, _, rfl, .inl (.inl hp), rfl, _, _, rfl, _, _, rfl, rfl, ?_⟩
    have b1 := ok.a
    have b2 := ok2.a
    have l0 := lcm_le ok.t ok2.t
    have m0 : max B.length B2.length ≤ 1000 := by omega
    have q := q H3 s3
    unfold partF at q
    revert l0 m0 q
    generalize Nat.lcm U.length U2.length = t
    generalize max B.length B2.length = m
    intro l0 m0 q
    refine ⟨_, rfl, _, rfl, _, _, rfl, rfl, ((m + t : Nat) : Int), rfl, by omega, by omega, ?_⟩
    rw [Int.toNat_natCast]
    refine for_range (lo := 0) (n := m + t) (fun i σ H' => H' = H3 ∧ (∀ j, j < i → diffW B U B2 U2 j = false) ∧ ∃ z : Option V, σ = [some x, some y, some (.int (m : Int)), some (.int (t : Int)), z]) ⟨rfl, (fun j hj => by omega), none, rfl⟩ ?_ ?_
    · rintro i σ H' hi ⟨rfl, no, z, rfl⟩
      rw [Int.zero_add]
      refine ⟨_, rfl, _, rfl, x, B, U, i, rfl, k1.dt, k1.pos, _, rfl, _, rfl, y, B2, U2, i, rfl, k2.dt, k2.pos, rfl, _, rfl, ?_⟩
      rw [dec_bl]
      cases hv : (itemW B U i != itemW B2 U2 i) with
      | true =>
        rw [findW_some no hi hv] at q
        exact iteT ⟨_, rfl, q⟩
      | false =>
        refine iteF ⟨rfl, fun j hj => ?_, _, rfl⟩
        by_cases e : j < i
        · exact no j e
        · rw [show j = i by omega]; exact hv
    · rintro σ H' ⟨rfl, no, z, rfl⟩
      rw [findW_none no] at q
      exact q
def spLater : Sp := fun vs H Q _ => ∃ (x : V) (A T : List Bool) (n : Nat), vs = [x, .int n] ∧ n ≤ 100 ∧ WdOk H x A T ∧ A.length + n ≤ 1000 ∧ newW (plainF (List.replicate n false ++ A) T) H Q
theorem bl_falses (n : Nat) : (List.replicate n [V.bl false]).flatten = blV (List.replicate n false) := by
  induction n with
  | zero => rfl
  | succ n ih =>
    rw [List.replicate_succ, List.flatten_cons, ih]
    rfl
theorem ok_later_widths (T : Tx K mg) : FnG P w K mg base CX0 4 T.a_later_widths T.d_later_widths ["widths", "many"] spLater := by
  have G_check_widths := ok_check_widths (P := P) (w := w) (base := base) T
  have G_is_count_to := ok_is_count_to (P := P) (w := w) (base := base) T
  have G_made_plain := ok_made_plain (P := P) (w := w) (base := base) T
  refine bodyG0 T.F_later_widths sc_later_widths (fun vs H Q E h => ?_) (fun cdv A outer s H vs Q E gd hr h => ?_)
  · obtain ⟨x, B, U, n, rfl, _⟩ := h; rfl
  · obtain ⟨x, B, U, n, rfl, hn, ok, sm, q⟩ := h
    refine ⟨_, (pss_cons (ps_expr (pe_g G_check_widths gd (hr.mono (by decide)) (by rfl) T.g_check_widths T.F_check_widths.kp T.b_check_widths .nil pass0 (pa_cons (pv 0) pa_nil)))
      (pss_cons (ps_if (pt_not (pt_val (pe_g G_is_count_to gd (hr.mono (by decide)) (by rfl) T.g_is_count_to T.F_is_count_to.kp T.b_is_count_to .nil pass0 (pa_cons (pv 1) (pa_cons (C8.pe_gc (by rfl) T.c_MOST_LATER) pa_nil))))) (pss_one ps_never) pss_nil)
      (pss_one (ps_ret (pe_g G_made_plain gd (hr.mono (by decide)) (by rfl) T.g_made_plain T.F_made_plain.kp T.b_made_plain .nil pass0 (pa_cons (pe_op op_cat (pe_op op_rep (pe_lst (pa_cons pe_bl pa_nil)) (pv 1)) (pe_ix (ix_tupK (K := K) rfl) (pv 0) pe_int (fun _ _ => rfl))) (pa_cons (pe_ix (ix_tupK (K := K) rfl) (pv 0) pe_int (fun _ _ => rfl)) pa_nil))))))), ?_⟩
    refine ⟨_, rfl, x, B, U, rfl, ok, fun H1 e1 => ⟨_, rfl, n, 100, rfl, hn, _, rfl, iteF ?_⟩⟩
    obtain ⟨a, b, c, rfl, ha, hb, hc⟩ := (ok.to e1).dt.wd
    refine ⟨by rw [sizeLine_eq]; show 1 ≤ _; decide, fun r hr' => ?_⟩
    have e2 := same_new' (o := .lst [.bl false]) hr'
    refine ⟨_, rfl, r, n, _, rfl, rfl, upd_same, by omega, by omega, by rw [Int.toNat_natCast, sizeLine_eq]; show 1 * n ≤ _; omega, fun p hp => ?_⟩
    rw [Int.toNat_natCast, bl_falses]
    have e3 := same_new' (o := .lst (blV (List.replicate n false))) hp
    have hp3 : upd (upd H1 r (.lst [.bl false])) p (.lst (blV (List.replicate n false))) p = some (.lst (blV (List.replicate n false))) := upd_same
    have s3 := e2.trans e3
    generalize (upd (upd H1 r (.lst [.bl false])) p (.lst (blV (List.replicate n false)))) = H3 at s3 hp3
    refine ⟨_, rfl, a, _, 0, _, rfl, rfl, .inl (.inl (s3 _ _ ha)), rfl, p, b, _, _, rfl, rfl, hp3, s3 _ _ hb, by rw [List.length_map, List.length_map, List.length_replicate, sizeLine_eq]; omega, fun p4 hp4 => ?_⟩
    rw [show blV (List.replicate n false) ++ blV B = blV (List.replicate n false ++ B) from (List.map_append ..).symm]
    have e4 := same_new' (o := .lst (blV (List.replicate n false ++ B))) hp4
    have s4 := s3.trans e4
    have s := e1.trans s4
    refine ⟨_, rfl, a, _, 1, _, rfl, rfl, .inl (.inl (s4 _ _ ha)), rfl, p4, c, _, _, rfl, upd_same, s4 _ _ hc, ok.pos, ok.t, by rw [List.length_append, List.length_replicate]; omega, fun a b c H7 e7 na nb nc ne => q a b c H7 (s.trans e7) (s.free na) (s.free nb) (s.free nc) ne⟩

end

end K41

set_option Elab.async false
set_option linter.all false
set_option maxRecDepth 100000
set_option maxHeartbeats 4000000
namespace K41
open PySem PySem.Spec PyProof.Rows L2 Hw
section
variable {P : Program} {w : World} {K : PySem.W.Frag} {mg : Str → Option Value} {base : Heap}

def forBody : Stmt → List Stmt
  | .For _ _ b _ _ => b
  | _ => []
def valOf : Stmt → Expr
  | .Assign _ v _ => v
  | _ => .Name "" ⟨0, 0, 0, 0⟩
def argAt (i : Nat) : Expr → Expr
  | .Call _ as _ _ => as.getD i (.Name "" ⟨0, 0, 0, 0⟩)
  | e => e
def lamX : Expr := argAt 2 (valOf ((forBody ((defBody s_law_right).getD 4 (.Pass ⟨0, 0, 0, 0⟩))).getD 0 (.Pass ⟨0, 0, 0, 0⟩)))
def lamP : Expr → Arguments
  | .Lambda p _ _ _ => p
  | _ => ⟨[], [], none, [], [], none, []⟩
def lamB : Expr → Expr
  | .Lambda _ b _ _ => b
  | e => e
def lamS : Expr → Scope
  | .Lambda _ _ s _ => s
  | _ => defScope s_law_right
def Lq : Str := ("_law_right" ++ ".<locals>.") ++ "<lambda>"
def lamCaps : List Str := ["_law_way_told", "_law_low", "_law_high"]
def lamIs : List Nat := [11, 10, 9]
theorem lam_one : Lam1 "_law_at" (lamS lamX) := lam1_by (by decide +kernel)
theorem ok_law_way (T : Tx K mg) : FnG P w K mg base CX0 1 T.a_law_way T.d_law_way ["_law_way_told", "_law_low", "_law_high"] spAre := by
  refine bodyG0 T.F_law_way sc_law_way (fun vs H Q E h => ?_) (fun cdv A outer s H vs Q E gd hr h => ?_)
  · obtain ⟨x, a, b, rfl, _⟩ := h; rfl
  · obtain ⟨x, a, b, rfl, q⟩ := h
    refine ⟨_, (pss_cons (ps_if (pt_cmpR op_eq (pv 0) pe_str (nomark _)) (pss_one (ps_ret (pe_and (pv 1) (pe_one (pv 2))))) pss_nil)
      (pss_one (ps_ret (pe_ifExp (pt_cmpR op_eq (pv 0) pe_str (nomark _)) (pe_or (pv 1) (pe_one (pv 2))) (pe_cmpR op_ne (pv 1) (pv 2) (nomark _)))))), ?_⟩
    unfold wayW at q
    refine ⟨_, rfl, rfl, _, rfl, ?_⟩
    rw [dec_str]
    by_cases h : x = "and"
    · rw [if_pos h] at q
      rw [decide_eq_true h]
      refine iteT ⟨_, rfl, _, rfl, ?_⟩
      cases a with
      | true => exact iteT ⟨_, rfl, q⟩
      | false => exact iteF q
    · rw [if_neg h] at q
      rw [decide_eq_false h]
      refine iteF ⟨_, rfl, rfl, _, rfl, ?_⟩
      rw [dec_str]
      by_cases h2 : x = "or"
      · rw [if_pos h2] at q
        rw [decide_eq_true h2]
        refine iteT ⟨_, rfl, _, rfl, ?_⟩
        cases a with
        | true => exact iteT q
        | false => exact iteF ⟨_, rfl, q⟩
      · rw [if_neg h2] at q
        rw [decide_eq_false h2]
        refine iteF ⟨_, rfl, _, rfl, rfl, ?_⟩
        rw [← dec_bl] at q
        exact q
def tWay : TE := tCall spAre [] E0 (tCons (tVar 1) (tCons (tCall spIn [] E0 (tCons (tVar 2) (tCons (tVar 0) tNil))) (tCons (tCall spIn [] E0 (tCons (tVar 3) (tCons (tVar 0) tNil))) tNil)))
theorem lam_body (T : Tx K mg) (A : Around) (outer : List Env) (s : Shared) (H : Hp) (f c' : Addr) (cl : List (Str × Addr)) (gd : Gd (A.deeper (PySem.W.envX Lq (lamS lamX) s.heap.objs.size f (.ref c') cl))) (hr : Room 2 (A.deeper (PySem.W.envX Lq (lamS lamX) s.heap.objs.size f (.ref c') cl))) :
    PE (lamC P w K mg base ("_law_at" :: lamCaps) Lq A outer s H (lamS lamX) f c' cl) (lamB lamX) tWay := by
  have G_law_way := ok_law_way (P := P) (w := w) (base := base) T
  have G_law_item := ok_law_item (P := P) (w := w) (base := base) T
  exact pe_g G_law_way gd (hr.mono (by decide)) (by rfl) T.g_law_way T.F_law_way.kp T.b_law_way .nil pass0 (pa_cons (pv 1) (pa_cons (pe_g G_law_item gd (hr.mono (by decide)) (by rfl) T.g_law_item T.F_law_item.kp T.b_law_item .nil pass0 (pa_cons (pv 2) (pa_cons (pv 0) pa_nil)))
    (pa_cons (pe_g G_law_item gd (hr.mono (by decide)) (by rfl) T.g_law_item T.F_law_item.kp T.b_law_item .nil pass0 (pa_cons (pv 3) (pa_cons (pv 0) pa_nil))) pa_nil)))
theorem put_min {H : Hp} {C : Pn} (h : ∀ b o, C b = some o → H b = some (FrzO o)) : putC (minC H C) C = H := by
  funext b
  cases z : C b with
  | none => rw [putC_out z, minC_out z]
  | some o => rw [putC_in z, h b o z]
theorem wd_min {H : Hp} {C : Pn} {x : V} {A T : List Bool} (hC : ∀ b o, C b = some o → H b = some (FrzO o)) (h : Dt H x (wdD A T)) : Dt (minC H C) x (wdD A T) := by
  obtain ⟨c, p, q, rfl, hc, hp, hq⟩ := h.wd
  exact .wd_of (minC_same hC hc fun o z => by cases z) (minC_same hC hp fun o z => by cases z) (minC_same hC hq fun o z => by cases z)
theorem lam_cells {q : Str} {params : Arguments} {body : Expr} {scope : Scope} {caps : List Str} {vals : List V} {C : Pn} {f : Addr} {H : Hp} (h : LamAt q params body scope caps vals C f H) : ∀ b o, C b = some o → H b = some (FrzO o) := by
  obtain ⟨_, _, _, _, _, _, h3, _⟩ := h
  exact h3
def spItems : Sp := fun vs H Q _ => ∃ (m n : Nat) (f : Addr) (C : Pn) (way : Str) (x y : V) (A T A' T' : List Bool), vs = [.int m, .int n, .ref f] ∧ LamAt Lq (lamP lamX) (lamB lamX) (lamS lamX) lamCaps [.str way, x, y] C f H ∧ Dt H x (wdD A T) ∧ Dt H y (wdD A' T') ∧ 0 < T.length ∧ 0 < T'.length ∧
  m ≤ 1000 ∧ 0 < n ∧ n ≤ 1000 ∧ ∀ (a : V) (H' : Hp), Same H H' → Dt H' a (wdD (plainF (tellL (bothW (wayW way) A T A' T') m) (tellL (fun i => bothW (wayW way) A T A' T' (m + i)) n)).1 (plainF (tellL (bothW (wayW way) A T A' T') m) (tellL (fun i => bothW (wayW way) A T A' T' (m + i)) n)).2) → Q a H'
theorem same_keep {H H1 : Hp} {D : Addr} {o : HO} (s : Same H H1) (n : H D = none) : Same H (upd H1 D o) := fun b u h => by
  rw [upd_ne (ne_of_none h n)]
  exact s b u h
theorem ok_law_of_items (T : Tx K mg) : FnG P w K mg base CX0 4 T.a_law_of_items T.d_law_of_items ["_law_many_told", "_law_turn", "_law_tell"] spItems := by
  have G_law_plain := ok_law_plain (P := P) (w := w) (base := base) T
  refine bodyG0 T.F_law_of_items sc_law_of_items (fun vs H Q E h => ?_) (fun cdv A outer s H vs Q E gd hr h => ?_)
  · obtain ⟨m, n, f, C, way, x, y, B, U, B2, U2, rfl, _⟩ := h; rfl
  · obtain ⟨m, n, f, C, way, x, y, B, U, B2, U2, rfl, l, d1, d2, u0, u20, hm, n0, hn, q⟩ := h
    refine ⟨_, (pss_one (ps_ret (pe_g G_law_plain gd (hr.mono (by decide)) (by rfl) T.g_law_plain T.F_law_plain.kp T.b_law_plain .nil pass0 (pa_cons (pe_tup (pa_cons (pe_lc (own := [("_law_at", 3)]) (g := gName 3) (tt := tYes) rfl sc_law_of_items.nd (pi_range1 (by rfl) T.z_range (pa_cons (pv 0) pa_nil)) (blkOk_by (N := ["_law_many_told", "_law_turn", "_law_tell", "_law_at"]) (sc := defScope s_law_of_items) (by decide +kernel)) (fun _ _ _ _ _ => (pg_name (i := 3) sc_law_of_items.nd rfl (Or.inl rfl))) (fun _ _ _ _ _ => pts_nil) (fun _ _ _ _ _ => (pe_tell (k := 2) (i := 2) (p := "_law_at") (q := Lq) (caps := lamCaps) (params := lamP lamX) (tb := tWay) lam_one (fun _ _ _ _ _ => rfl) gd (hr.mono (by decide)) (fun A2 o2 s2 H2 f2 c2 cl2 gd2 hr2 => lam_body T A2 o2 s2 H2 f2 c2 cl2 gd2 hr2) (pv 3) rfl (by first | exact Or.inl rfl | exact Or.inr (Or.inl rfl) | exact Or.inr (Or.inr rfl))))) (pa_cons (pe_lc (own := [("_law_at", 3)]) (g := gName 3) (tt := tYes) rfl sc_law_of_items.nd (pi_range1 (by rfl) T.z_range (pa_cons (pv 1) pa_nil)) (blkOk_by (N := ["_law_many_told", "_law_turn", "_law_tell", "_law_at"]) (sc := defScope s_law_of_items) (by decide +kernel)) (fun _ _ _ _ _ => (pg_name (i := 3) sc_law_of_items.nd rfl (Or.inl rfl))) (fun _ _ _ _ _ => pts_nil) (fun _ _ _ _ _ => (pe_tell (k := 2) (i := 2) (p := "_law_at") (q := Lq) (caps := lamCaps) (params := lamP lamX) (tb := tWay) lam_one (fun _ _ _ _ _ => rfl) gd (hr.mono (by decide)) (fun A2 o2 s2 H2 f2 c2 cl2 gd2 hr2 => lam_body T A2 o2 s2 H2 f2 c2 cl2 gd2 hr2) (pe_op op_add (pv 0) (pv 3)) rfl (by first | exact Or.inl rfl | exact Or.inr (Or.inl rfl) | exact Or.inr (Or.inr rfl))))) pa_nil))) pa_nil)))), ?_⟩
    refine ⟨_, rfl, m, rfl, by omega, by omega, fun D hD => ?_⟩
    rw [Int.toNat_natCast]
    refine lc_range (lo := 0) (n := m) (fun j H' => Same H H' ∧ H' D = some (.lst (blV (tellL (bothW (wayW way) B U B2 U2) j)))) ⟨same_new' hD, upd_same⟩ ?_ ?_
    · rintro j H4 hj ⟨e4, h4⟩
      rw [Int.zero_add]
      have l4 := l.to e4
      refine ⟨rfl, yes_if ⟨f, _, C, rfl, rfl, l4, _, rfl, l4, ?_⟩⟩
      refine ⟨_, rfl, _, rfl, _, rfl, x, B, U, j, rfl, wd_min (lam_cells l4) (d1.to e4), u0, _, rfl, _, rfl, y, B2, U2, j, rfl, wd_min (lam_cells l4) (d2.to e4), u20, way, _, _, rfl, ?_⟩
      dsimp only
      rw [put_min (lam_cells l4)]
      refine ⟨_, h4, by rw [List.length_map, tellL_len, sizeLine_eq]; omega, same_keep e4 hD, ?_⟩
      rw [upd_same, ← tellL_snoc]
      show _ = some (HO.lst (List.map _ _))
      rw [List.map_append]
      rfl
    rintro H4 ⟨e4, h4⟩
    dsimp only [gName]
    refine ⟨_, rfl, n, rfl, by omega, by omega, fun D2 hD2 => ?_⟩
    rw [Int.toNat_natCast]
    refine lc_range (lo := 0) (n := n) (fun j H' => Same H4 H' ∧ H' D2 = some (.lst (blV (tellL (fun i => bothW (wayW way) B U B2 U2 (m + i)) j)))) ⟨same_new' hD2, upd_same⟩ ?_ ?_
    · rintro j H5 hj ⟨e5, h5⟩
      rw [Int.zero_add]
      have e05 := e4.trans e5
      have l5 := l.to e05
      refine ⟨rfl, yes_if ⟨f, _, C, rfl, rfl, l5, _, rfl, _, rfl, _, _, rfl, rfl, l5, ?_⟩⟩
      refine ⟨_, rfl, _, rfl, _, rfl, x, B, U, m + j, rfl, wd_min (lam_cells l5) (d1.to e05), u0, _, rfl, _, rfl, y, B2, U2, m + j, rfl, wd_min (lam_cells l5) (d2.to e05), u20, way, _, _, rfl, ?_⟩
      dsimp only
      rw [put_min (lam_cells l5)]
      refine ⟨_, h5, by rw [List.length_map, tellL_len, sizeLine_eq]; omega, same_keep e5 hD2, ?_⟩
      rw [upd_same, ← tellL_snoc]
      show _ = some (HO.lst (List.map _ _))
      rw [List.map_append]
      rfl
    rintro H5 ⟨e5, h5⟩
    refine ⟨by rw [sizeLine_eq]; show 2 ≤ _; decide, fun p hp => ?_⟩
    have e6 := same_new' (o := .tup [.ref D, .ref D2]) hp
    have s := (e4.trans e5).trans e6
    exact ⟨_, _, _, rfl, ⟨.wd_of upd_same (e6 _ _ (e5 _ _ h4)) (e6 _ _ h5), by rw [tellL_len]; exact n0, by rw [tellL_len]; exact hm, by rw [tellL_len]; exact hn⟩, fun a H' e d => q a H' (s.trans e) d⟩

end

end K41

set_option Elab.async false
set_option linter.all false
set_option maxRecDepth 100000
set_option maxHeartbeats 4000000
namespace K41
open PySem PySem.Spec PyProof.Rows L2 Hw
section
variable {P : Program} {w : World} {K : PySem.W.Frag} {mg : Str → Option Value} {base : Heap}
end
section
variable {P : Program} {w : World} {K : PySem.W.Frag} {mg : Str → Option Value} {base : Heap}
/-- a def's body, its code object known -/
theorem bodyGc0 {x : Str} {st : Stmt} {f c : Addr} {fd : FuncData} {N ps : List Str} {k : Nat} {sp : Sp}
    (F : DefAt K x st f fd) (hc : fd.code = .ref c) (S : FnScope N ps (defScope st)) (ar : ∀ vs H Q E, sp vs H Q E → vs.length = ps.length)
    (hb : ∀ (A : Around) (outer : List Env) (s : Shared) (H : Hp) (vs : List V) (Q : VK) (E : XK), Gd (A.deeper (envOfC x (defScope st) s.heap.objs.size f (.ref c))) → Room k (A.deeper (envOfC x (defScope st) s.heap.objs.size f (.ref c))) → sp vs H Q E →
      ∃ t, PSs (cxOf CX0 P w K mg base N x (defScope st) f (.ref c) A outer s H E).nox (defBody st) t ∧ t { nx := fun _ H' => Q .non H', rt := Q } (start N vs) H) : FnG P w K mg base CX0 (k + 1) f fd ps sp := by
  refine ⟨ar, ?_⟩
  intro A outer s H args us vs Q E gd room env bind rel want
  obtain ⟨oc, od, dV, kV, doc, pm, an, cdv, ct, osl, rfl, look, codeIs, -, -⟩ := F.ex
  have ec : cdv = .ref c := hc
  subst ec
  have inK : K.In s.heap := env.mod.kin.keeps fun b o q => (env.bs b o q).1
  have noLim : s.heap.NoLimit := env.mod.nolimit.keeps fun b o q => (env.bs b o q).1
  have kinds : ∀ y ∈ ps.zip us, (defScope st).names.lookup y.1 = some .local ∨ ((defScope st).names.lookup y.1 = some .cell ∧ ((cellsFrom (s.heap.objs.size + 1) (defScope st).names []).lookup y.1).isSome = true) := by
    rintro ⟨n, v⟩ hy
    cases S.par n (List.of_mem_zip hy).1 with
    | inl q => exact Or.inl q
    | inr q => exact Or.inr ⟨q, PySem.W.cellsFrom_some _ _ _ (Or.inl q)⟩
  refine codeAny_call_function room.depth (inK _ _ look) rfl S.co S.gen rfl (PySem.W.codeRec_of inK codeIs) (bind _ _ _ _ ?_)
  refine wpAny_newFunctionEnv_cells S.kind kinds ?_
  rintro env' rfl s1 x1
  refine ⟨noLim.keeps x1.toInCall.keep, codeAny_func ?_⟩
  obtain ⟨t, run, done⟩ := hb A outer s H vs Q E gd (room.deeper _) want
  have I := inv_start (CX := CX0) (E := E) S room.hd env (ar _ _ _ _ want) rel x1
  refine wpAny_mono (run.nox.run [] s1 (start N vs) H _ I done) ?_ (fun _ _ q => q)
  intro fl s' after
  cases fl with
  | ret u =>
    obtain ⟨v, σ', H', J, rv, q⟩ := after
    exact ⟨v, H', J.os, J.bare, J.base, J.hok, rv, q⟩
  | next =>
    obtain ⟨σ', H', J, q⟩ := after
    exact ⟨V.non, H', J.os, J.bare, J.base, J.hok, rfl, q⟩
  | brk => exact (after.choose_spec.choose_spec.2 : False).elim
  | cont => exact (after.choose_spec.choose_spec.2 : False).elim
end
/-! what a lambda's making leaves of data -/
def nt (H : Hp) : Hp := fun b => match H b with
  | some (.tbl _) => none
  | o => o
theorem nt_same {H H' : Hp} (e : LamX.ExtN H H') : Same (nt H) H' := fun b o h => by
  unfold nt at h
  split at h
  · cases h
  · rename_i o' hn
    exact e b o h fun ps z => hn ps (by rw [h, z])
theorem nt_of {H : Hp} {b : Addr} {o : HO} (h : H b = some o) (n : ∀ ps, o ≠ .tbl ps) : nt H b = some o := by
  unfold nt
  split
  · rename_i ps hp
    rw [h] at hp
    exact absurd (Option.some.inj hp) (n ps)
  · exact h
mutual
theorem Dt.nt {H : Hp} : ∀ (d : PyData) (v : V), Dt H v d → Dt (nt H) v d
  | .none, _, h => by cases h; exact .non
  | .bool b, _, h => by cases h; exact .bl b
  | .int i, _, h => by cases h; exact .int i
  | .str x, _, h => by cases h; exact .str x
  | .list ds, _, h => by
    cases h with
    | lst hs ha => exact .lst (nt_of hs fun ps z => by cases z) (DtAll.nt ds _ ha)
  | .tuple ds, _, h => by
    cases h with
    | tup hs ha => exact .tup (nt_of hs fun ps z => by cases z) (DtAll.nt ds _ ha)
  | .dict ds, _, h => by
    cases h with
    | dic kvs hs => exact .dic kvs (nt_of hs fun ps z => by cases z)
theorem DtAll.nt {H : Hp} : ∀ (ds : List PyData) (vs : List V), DtAll H vs ds → DtAll (nt H) vs ds
  | [], _, h => by cases h; exact .nil
  | d :: ds, _, h => by
    cases h with
    | cons h1 h2 => exact .cons (Dt.nt d _ h1) (DtAll.nt ds _ h2)
end
theorem dt_ext {H H' : Hp} {v : V} {d : PyData} (h : Dt H v d) (e : LamX.ExtN H H') : Dt H' v d := (Dt.nt d v h).to (nt_same e)
section
variable {P : Program} {w : World} {K : PySem.W.Frag} {mg : Str → Option Value} {base : Heap}

/-- what stays: all but the generator and the tables of code objects -/
def Stay (a : Addr) (H H' : Hp) : Prop := ∀ b o, b ≠ a → H b = some o → (∀ ps, o ≠ .tbl ps) → H' b = some o
theorem Stay.of {a : Addr} {H H' : Hp} (e : SameX a H H') : Stay a H H' := fun b o n h _ => e b o n h
theorem Stay.ext {a : Addr} {H H1 H2 : Hp} (s : Stay a H H1) (e : LamX.ExtN H1 H2) : Stay a H H2 := fun b o n h k => e b o (s b o n h k) k
theorem Stay.x {a : Addr} {H H1 H2 : Hp} (s : Stay a H H1) (e : SameX a H1 H2) : Stay a H H2 := fun b o n h k => e b o n (s b o n h k)
theorem wd_off {a : Addr} {t m : Int} {H : Hp} {x : V} {A T : List Bool} (g : Gn a t m H) (h : Dt H x (wdD A T)) : Dt (off a H) x (wdD A T) := by
  obtain ⟨c, p, q, rfl, hc, hp, hq⟩ := h.wd
  obtain ⟨s, k, e, _⟩ := g
  have nb : ∀ (l : List Bool), (blV l) ≠ [.int s, .int t, .int k] := fun l z => by
    cases l with
    | nil => cases z
    | cons b r => injection z with z1 z2; cases z1
  have nc : c ≠ a := fun z => by rw [z, e] at hc; cases hc
  have np : p ≠ a := fun z => by
    rw [z, e] at hp
    injection hp with hp
    injection hp with hp
    exact nb _ hp.symm
  have nq : q ≠ a := fun z => by
    rw [z, e] at hq
    injection hq with hq
    injection hq with hq
    exact nb _ hq.symm
  exact .wd_of (off_of nc hc) (off_of np hp) (off_of nq hq)
theorem Gn.ext {a : Addr} {t m : Int} {H H' : Hp} (g : Gn a t m H) (e : LamX.ExtN H H') : Gn a t m H' := by
  obtain ⟨s, k, h, r⟩ := g
  exact ⟨s, k, e _ _ h (fun ps z => by cases z), r⟩
/-- the round of a law: the generator, two sets of widths -/
structure St (tt a : Addr) (t m : Int) (x y : V) (B U B2 U2 : List Bool) (H0 H : Hp) : Prop where
  stay : Stay a H0 H
  tabs : LamX.Tabs [(tt, Lq)] H
  g : Gn a t m H
  dx : Dt H x (wdD B U)
  dy : Dt H y (wdD B2 U2)
theorem St.ext {tt a : Addr} {t m : Int} {x y : V} {B U B2 U2 : List Bool} {H0 H H' : Hp} (s : St tt a t m x y B U B2 U2 H0 H) (e : LamX.ExtN H H') (k : LamX.Tabs [(tt, Lq)] H') : St tt a t m x y B U B2 U2 H0 H' :=
  ⟨s.stay.ext e, k, Gn.ext s.g e, dt_ext s.dx e, dt_ext s.dy e⟩
theorem St.same {tt a : Addr} {t m : Int} {x y : V} {B U B2 U2 : List Bool} {H0 H H' : Hp} (s : St tt a t m x y B U B2 U2 H0 H) (e : Same H H') : St tt a t m x y B U B2 U2 H0 H' :=
  s.ext (LamX.ExtN.of e) (s.tabs.ext e)
theorem St.x {tt a : Addr} {t m m' : Int} {x y : V} {B U B2 U2 : List Bool} {H0 H H' : Hp} (s : St tt a t m x y B U B2 U2 H0 H) (e : SameX a H H') (g : Gn a t m' H') : St tt a t m' x y B U B2 U2 H0 H' := by
  have o : Same (off a H) H' := fun b u h => off_same b u (e.off b u h)
  refine ⟨s.stay.x e, fun p hp => ?_, g, ((wd_off s.g s.dx).to o), ((wd_off s.g s.dy).to o)⟩
  obtain ⟨ps, h1, h2, h3⟩ := s.tabs p hp
  have na : ∀ {b u}, H b = some u → (∀ l, u ≠ .lst l) → b ≠ a := fun {b u} h n z => by
    obtain ⟨s0, k0, e0, _⟩ := s.g
    rw [z, e0] at h
    exact n _ (Option.some.inj h).symm
  refine ⟨ps, e _ _ (na h1 fun l z => by cases z) h1, h2, fun pos cv hc => ?_⟩
  obtain ⟨c, e1, e2⟩ := h3 pos cv hc
  exact ⟨c, e1, e _ _ (na e2 fun l z => by unfold LamX.CodeO at z; cases z) e2⟩
theorem wayW_comm (x : Str) (a b : Bool) : wayW x a b = wayW x b a := by
  unfold wayW
  split
  · exact Bool.and_comm a b
  · split
    · exact Bool.or_comm a b
    · cases a <;> cases b <;> rfl
theorem joinF_comm {F : Bool → Bool → Bool} (c : ∀ a b, F a b = F b a) {B U B2 U2 : List Bool} (h : 0 < U.length) (h' : 0 < U2.length) : joinF F B2 U2 B U = joinF F B U B2 U2 := by
  unfold joinF
  refine plainF_congr (by rw [tellL_len]; exact Nat.lcm_pos h' h) (by rw [tellL_len]; exact Nat.lcm_pos h h') fun w => ?_
  rw [item_tell (Nat.lcm_pos h' h) (bothW_short F B2 U2 B U), item_tell (Nat.lcm_pos h h') (bothW_short F B U B2 U2)]
  exact c _ _
theorem joinF_len (F : Bool → Bool → Bool) (B U B2 U2 : List Bool) : (joinF F B U B2 U2).1.length ≤ max B.length B2.length ∧ (joinF F B U B2 U2).2.length ≤ Nat.lcm U.length U2.length := by
  have h := plainF_len (tellL (bothW F B U B2 U2) (max B.length B2.length)) (tellL (fun i => bothW F B U B2 U2 (max B.length B2.length + i)) (Nat.lcm U.length U2.length))
  rw [tellL_len, tellL_len] at h
  exact h
theorem partF_comm {B U B2 U2 : List Bool} : partF B2 U2 B U = partF B U B2 U2 := by
  unfold partF
  rw [Nat.max_comm, Nat.lcm_comm]
  congr 1
  funext i
  show (itemW B2 U2 i != itemW B U i) = (itemW B U i != itemW B2 U2 i)
  cases itemW B2 U2 i <;> cases itemW B U i <;> rfl
theorem filt_step (f : Nat → Bool) (n : Nat) : (List.range (n + 1)).filter f = (List.range n).filter f ++ (if f n = true then [n] else []) := by
  rw [List.range_succ, List.filter_append]
  congr 1
  cases h : f n with
  | true => rw [if_pos rfl, List.filter_cons_of_pos h]; rfl
  | false => rw [if_neg Bool.false_ne_true, List.filter_cons_of_neg (by rw [h]; exact Bool.false_ne_true)]; rfl
theorem filt_len (f : Nat → Bool) (n : Nat) : ((List.range n).filter f).length ≤ n := Nat.le_trans (List.length_filter_le _ _) (Nat.le_of_eq List.length_range)
theorem nil_eqv (l : List Nat) : PyData.eqv (.list (natD l)) (.list []) = l.isEmpty := by
  cases l with
  | nil => decide +kernel
  | cons x r => rfl
theorem natV_len (l : List Nat) : (natV l).length = l.length := List.length_map ..
theorem natV_snoc (l : List Nat) (x : Nat) : natV l ++ [V.int (x : Int)] = natV (l ++ [x]) := by
  show _ = List.map _ _
  rw [List.map_append]
  rfl
theorem nats_shaped (l : List Nat) : SeqAt.shaped (.list (natD l)) = true := by
  have h1 : ∀ l : List Nat, PyData.canLayAll0 (natD l) = true := by
    intro l
    induction l with
    | nil => rfl
    | cons x r ih => show (true && PyData.canLayAll0 (natD r)) = true; rw [ih]; rfl
  have h2 : ∀ l : List Nat, PyData.depthAll (natD l) = 0 := by
    intro l
    induction l with
    | nil => simp only [List.map_nil, PyData.depthAll]
    | cons x r ih =>
      show PyData.depthAll (PyData.int (x : Int) :: natD r) = 0
      simp only [PyData.depthAll, PyData.depth, ih]
      decide
  have h3 : PyData.canLay0 (.list (natD l)) = true := by simp only [PyData.canLay0]; exact h1 l
  have h4 : PyData.depth (.list (natD l)) ≤ 64 := by simp only [PyData.depth, h2]; omega
  show (PyData.canLay0 _ && decide (PyData.depth _ ≤ 64)) = true
  rw [h3, decide_eq_true h4]
  rfl
theorem eqv_wd (A U A' U' : List Bool) : PyData.eqv (wdD A U) (wdD A' U') = (decide (A = A') && decide (U = U')) := by
  show PyData.eqvAll [.list (blD A), .list (blD U)] [.list (blD A'), .list (blD U')] = _
  simp only [PyData.eqvAll, eqv_bl, Bool.and_true]
theorem part_none {A U A' U' : List Bool} (h : 0 < U.length) (h' : 0 < U'.length) : decide (optV (partF A U A' U') = V.non) = PyData.eqv (wdD (plainF A U).1 (plainF A U).2) (wdD (plainF A' U').1 (plainF A' U').2) := by
  rw [eqv_wd]
  have k := partF_none (A := A) (A' := A') h h'
  cases z : partF A U A' U' with
  | none =>
    rw [k.mp z]
    simp [optV]
  | some i =>
    have ne : ¬ plainF A U = plainF A' U' := fun e => by
      rw [k.mpr e] at z
      cases z
    have e1 : decide (optV (some i) = V.non) = false := decide_eq_false fun z => by cases z
    rw [e1]
    symm
    cases y : (decide ((plainF A U).1 = (plainF A' U').1) && decide ((plainF A U).2 = (plainF A' U').2)) with
    | false => rfl
    | true =>
      obtain ⟨p, r⟩ := Bool.and_eq_true_iff.mp y
      exact absurd (Prod.ext (of_decide_eq_true p) (of_decide_eq_true r)) ne
theorem part_shows {A U A' U' : List Bool} (h : max A.length A'.length + Nat.lcm U.length U'.length ≤ 10000) : Shows (optD (partF A U A' U')) := (opt_nice fun w e => by
  have := (findW_lt e).1
  have t38 : (10000 : Nat) < 10 ^ 38 := by decide
  omega).shows
theorem lam_back {H3 H4 : Hp} {C : Pn} (hC : ∀ b o, C b = some o → H3 b = none) (e : Same (putC H3 C) H4) : Same H3 (minC H4 C) := fun b o h => by
  rw [minC_out (put_off hC h)]
  exact e b o (putC_same hC h)
theorem veq (x : Str) : decide (V.str x = V.str x) = true := decide_eq_true rfl
theorem wd_shows {A T : List Bool} (h : A.length ≤ 1000) (h' : T.length ≤ 1000) : Shows (wdD A T) := (wd_nice h h').shows
theorem two_nice {A T A' T' : List Bool} (h : A.length ≤ 100) (h' : T.length ≤ 100) (k : A'.length ≤ 100) (k' : T'.length ≤ 100) : Nice (.list [wdD A T, wdD A' T']) :=
  (Bnd.lst (k := 2) (b := 202) (n := 2) (c := 406) (AllB.cons (Bnd.wd (n := 100) h h') (AllB.cons (Bnd.wd (n := 100) k k') AllB.nil)) (by show 2 ≤ 2; decide)).nice (by decide) (by decide)
def lamN : List Str := ["_law_generator_here", "_law_kept", "_law_size", "_law_far", "_law_due", "_law_found", "_law_later", "_law_unlike", "_law_turned", "_law_high", "_law_low", "_law_way_told", "_law_at", "_law_item_here"]
def spRight (tt : Addr) : Sp := fun vs H Q _ => ∃ (a : Addr) (t m : Int), vs = [.ref a] ∧ Gn a t m H ∧ m + 100000 < 4294967296 ∧ LamX.Tabs [(tt, Lq)] (off a H) ∧ ∀ H', Stay a H H' → LamX.Tabs [(tt, Lq)] H' → Q (.bl true) H'
theorem ok_law_right {c tt : Addr} (T : Tx K mg) (hcode : T.d_law_right.code = .ref c) (TB : LamX.TabB base mg c tt) : FnG P w K mg base CX0 6 T.a_law_right T.d_law_right ["_law_generator_here"] (spRight tt) := by
  have G_law_random := ok_rnd (P := P) (w := w) (base := base) T
  have G_law_set := ok_law_set (P := P) (w := w) (base := base) T
  have G_law_put_longer := ok_law_put_longer (P := P) (w := w) (base := base) T
  have G_law_plain := ok_law_plain (P := P) (w := w) (base := base) T
  have G_law_item := ok_law_item (P := P) (w := w) (base := base) T
  have G_law_of_items := ok_law_of_items (P := P) (w := w) (base := base) T
  have G_joined_widths := ok_joined_widths (P := P) (w := w) (base := base) T
  have G_turned_widths := ok_turned_widths (P := P) (w := w) (base := base) T
  have G_later_widths := ok_later_widths (P := P) (w := w) (base := base) T
  have G_parting_width := ok_parting_width (P := P) (w := w) (base := base) T
  refine bodyGc0 T.F_law_right hcode sc_law_right (fun vs H Q E h => ?_) (fun A outer s H vs Q E gd hr h => ?_)
  · obtain ⟨a, t, m, rfl, _⟩ := h; rfl
  · obtain ⟨a, t, m, rfl, g0, hm, tabs, q⟩ := h
    refine ⟨_, (pss_cons (ps_asg (pe_tup (pa_cons (pe_g G_law_set gd (hr.mono (by decide)) (by rfl) T.g_law_set T.F_law_set.kp T.b_law_set .nil pass0 (pa_cons (pv 0) (pa_cons pe_int pa_nil))) (pa_cons (pe_g G_law_set gd (hr.mono (by decide)) (by rfl) T.g_law_set T.F_law_set.kp T.b_law_set .nil pass0 (pa_cons (pv 0) (pa_cons pe_int pa_nil))) pa_nil))) (pg_tup (by rfl) (pgs_cons (pg_name (i := 10) sc_law_right.nd rfl (Or.inr rfl)) (pgs_cons (pg_name (i := 9) sc_law_right.nd rfl (Or.inr rfl)) pgs_nil))))
      (C8.pss_cut (ps_if (pt_cmpR op_eq (pe_g G_law_random gd (hr.mono (by decide)) (by rfl) T.g_law_random T.F_law_random.kp T.b_law_random .nil pass0 (pa_cons (pv 0) (pa_cons pe_int pa_nil))) pe_int (nomark _)) (pss_one (ps_set (i := 9) sc_law_right.nd rfl (Or.inr rfl) (pe_g G_law_put_longer gd (hr.mono (by decide)) (by rfl) T.g_law_put_longer T.F_law_put_longer.kp T.b_law_put_longer .nil pass0 (pa_cons (pv 0) (pa_cons (pv 10) pa_nil))))) pss_nil)
      (pss_cons (ps_par (i := 1) (j := 2) rfl sc_law_right.nd rfl rfl (by decide) rfl rfl (pa_cons (pe_callB (call_reprT gd hr.units) (by rfl) T.z_repr (by decide +kernel) (pa_cons (pe_lst (pa_cons (pv 10) (pa_cons (pv 9) pa_nil))) pa_nil)) (pa_cons (pe_op op_mulX (pe_callB (call_lenK (K := K) rfl) (by rfl) T.z_len (by decide +kernel) (pa_cons (pe_ix (ix_tupK (K := K) rfl) (pv 10) pe_int (fun _ _ => rfl)) pa_nil)) (pe_callB (call_lenK (K := K) rfl) (by rfl) T.z_len (by decide +kernel) (pa_cons (pe_ix (ix_tupK (K := K) rfl) (pv 9) pe_int (fun _ _ => rfl)) pa_nil))) pa_nil)) (by rfl))
      (pss_cons (ps_set (i := 3) sc_law_right.nd rfl (Or.inl rfl) (pe_op op_add (pe_callB (call_lenK (K := K) rfl) (by rfl) T.z_len (by decide +kernel) (pa_cons (pe_ix (ix_tupK (K := K) rfl) (pv 10) pe_int (fun _ _ => rfl)) pa_nil)) (pe_callB (call_lenK (K := K) rfl) (by rfl) T.z_len (by decide +kernel) (pa_cons (pe_ix (ix_tupK (K := K) rfl) (pv 9) pe_int (fun _ _ => rfl)) pa_nil))))
      (C8.pss_cut (ps_for PassesOwn.never rfl (pi_list (pe_lst (pa_cons pe_str (pa_cons pe_str (pa_cons pe_str pa_nil))))) (pg_name (i := 11) sc_law_right.nd rfl (Or.inr rfl)) (pss_cons (ps_set (i := 4) sc_law_right.nd rfl (Or.inl rfl) (pe_gLam (T := [(tt, Lq)]) (caps := lamCaps) (is := lamIs) G_law_of_items gd (hr.mono (by decide)) (by rfl) T.g_law_of_items T.F_law_of_items.kp T.b_law_of_items (pv 3) (pv 2) TB rfl (List.mem_singleton.mpr rfl) (fun p hp _ => by rw [List.mem_singleton.mp hp]; rfl) (caps_by (by show capsB lamN (defScope s_law_right) _ lamCaps lamIs = true; decide +kernel)) (fun _ => rfl) rfl))
      (pss_cons (ps_set (i := 5) sc_law_right.nd rfl (Or.inl rfl) (pe_g G_joined_widths gd (hr.mono (by decide)) (by rfl) T.g_joined_widths T.F_joined_widths.kp T.b_joined_widths .nil pass0 (pa_cons (pv 11) (pa_cons (pv 10) (pa_cons (pv 9) pa_nil)))))
      (pss_cons (ps_if (PW.pt (pw_or (pt_cmpR op_ne (pe_callB (call_reprT gd hr.units) (by rfl) T.z_repr (by decide +kernel) (pa_cons (pv 5) pa_nil)) (pe_callB (call_reprT gd hr.units) (by rfl) T.z_repr (by decide +kernel) (pa_cons (pv 4) pa_nil)) (nomark _)) (pw_or1 (pt_cmpR op_ne (pe_callB (call_reprT gd hr.units) (by rfl) T.z_repr (by decide +kernel) (pa_cons (pe_gk G_joined_widths gd (hr.mono (by decide)) (by rfl) T.g_joined_widths T.F_joined_widths.kp T.w_joined_widths_other_one_way pass0 (pk_cons (pv 10) (pk_cons (pv 9) (pk_cons (pv 11) pk_nil)))) pa_nil)) (pe_callB (call_reprT gd hr.units) (by rfl) T.z_repr (by decide +kernel) (pa_cons (pv 4) pa_nil)) (nomark _))))) (pss_one (ps_ret pe_bl)) pss_nil)
      (pss_one (ps_expr (pe_bm PySem.F.plainAttrs_list PySem.F.slot_list_append PySem.F.type_list_append mt_append (pe_ix (ix_tupK (K := K) rfl) (pv 5) pe_int (fun _ _ => rfl)) (pa_cons pe_bl pa_nil))))))))
      (pss_cons (ps_if (pt_cmpR op_ne (pe_callB (call_reprT gd hr.units) (by rfl) T.z_repr (by decide +kernel) (pa_cons (pe_g G_turned_widths gd (hr.mono (by decide)) (by rfl) T.g_turned_widths T.F_turned_widths.kp T.b_turned_widths .nil pass0 (pa_cons (pv 10) pa_nil)) pa_nil)) (pe_callB (call_reprT gd hr.units) (by rfl) T.z_repr (by decide +kernel) (pa_cons (pe_g G_law_plain gd (hr.mono (by decide)) (by rfl) T.g_law_plain T.F_law_plain.kp T.b_law_plain .nil pass0 (pa_cons (pe_tup (pa_cons (pe_lc (own := [("_law_item_here", 13)]) (g := gName 13) (tt := tYes) rfl sc_law_right.nd (pi_list (pe_ix (ix_tupK (K := K) rfl) (pv 10) pe_int (fun _ _ => rfl))) (blkOk_by (N := ["_law_generator_here", "_law_kept", "_law_size", "_law_far", "_law_due", "_law_found", "_law_later", "_law_unlike", "_law_turned", "_law_high", "_law_low", "_law_way_told", "_law_at", "_law_item_here"]) (sc := defScope s_law_right) (by decide +kernel)) (fun _ _ _ _ _ => (pg_name (i := 13) sc_law_right.nd rfl (Or.inl rfl))) (fun _ _ _ _ _ => pts_nil) (fun _ _ _ _ _ => (pe_not (pv 13)))) (pa_cons (pe_lc (own := [("_law_item_here", 13)]) (g := gName 13) (tt := tYes) rfl sc_law_right.nd (pi_list (pe_ix (ix_tupK (K := K) rfl) (pv 10) pe_int (fun _ _ => rfl))) (blkOk_by (N := ["_law_generator_here", "_law_kept", "_law_size", "_law_far", "_law_due", "_law_found", "_law_later", "_law_unlike", "_law_turned", "_law_high", "_law_low", "_law_way_told", "_law_at", "_law_item_here"]) (sc := defScope s_law_right) (by decide +kernel)) (fun _ _ _ _ _ => (pg_name (i := 13) sc_law_right.nd rfl (Or.inl rfl))) (fun _ _ _ _ _ => pts_nil) (fun _ _ _ _ _ => (pe_not (pv 13)))) pa_nil))) pa_nil)) pa_nil)) (nomark _)) (pss_one (ps_ret pe_bl)) pss_nil)
      (pss_cons (ps_set (i := 6) sc_law_right.nd rfl (Or.inl rfl) (pe_g G_law_random gd (hr.mono (by decide)) (by rfl) T.g_law_random T.F_law_random.kp T.b_law_random .nil pass0 (pa_cons (pv 0) (pa_cons pe_int pa_nil))))
      (pss_cons (ps_if (pt_cmpR op_ne (pe_callB (call_reprT gd hr.units) (by rfl) T.z_repr (by decide +kernel) (pa_cons (pe_gk G_later_widths gd (hr.mono (by decide)) (by rfl) T.g_later_widths T.F_later_widths.kp T.w_later_widths_many_widths pass0 (pk_cons (pv 6) (pk_cons (pv 10) pk_nil))) pa_nil)) (pe_callB (call_reprT gd hr.units) (by rfl) T.z_repr (by decide +kernel) (pa_cons (pe_g G_law_plain gd (hr.mono (by decide)) (by rfl) T.g_law_plain T.F_law_plain.kp T.b_law_plain .nil pass0 (pa_cons (pe_tup (pa_cons (pe_op op_cat (pe_op op_rep (pe_lst (pa_cons pe_bl pa_nil)) (pv 6)) (pe_ix (ix_tupK (K := K) rfl) (pv 10) pe_int (fun _ _ => rfl))) (pa_cons (pe_ix (ix_tupK (K := K) rfl) (pv 10) pe_int (fun _ _ => rfl)) pa_nil))) pa_nil)) pa_nil)) (nomark _)) (pss_one (ps_ret pe_bl)) pss_nil)
      (pss_cons (ps_setLc (i := 7) (own := [("_law_at", 12)]) (g := gName 12) rfl sc_law_right.nd rfl rfl (sw_true rfl rfl rfl (by decide +kernel)) (pi_range1 (by rfl) T.z_range (pa_cons (pe_op op_add (pv 3) (pv 2)) pa_nil)) (blkOk_by (N := ["_law_generator_here", "_law_kept", "_law_size", "_law_far", "_law_due", "_law_found", "_law_later", "_law_unlike", "_law_turned", "_law_high", "_law_low", "_law_way_told", "_law_at", "_law_item_here"]) (sc := defScope s_law_right) (by decide +kernel)) (fun _ _ _ _ _ => (pg_name (i := 12) sc_law_right.nd rfl (Or.inl rfl))) (fun _ _ _ _ _ => (pts_one (pt_cmpR op_ne (pe_g G_law_item gd (hr.mono (by decide)) (by rfl) T.g_law_item T.F_law_item.kp T.b_law_item .nil pass0 (pa_cons (pv 10) (pa_cons (pv 12) pa_nil))) (pe_g G_law_item gd (hr.mono (by decide)) (by rfl) T.g_law_item T.F_law_item.kp T.b_law_item .nil pass0 (pa_cons (pv 9) (pa_cons (pv 12) pa_nil))) (nomark _)))) (fun _ _ _ _ _ => (pv 12)))
      (C8.pss_cut (ps_set (i := 4) sc_law_right.nd rfl (Or.inl rfl) (pe_ifExp (pt_cmpR (op_neT hr.units) (pv 7) (pe_lst pa_nil) (nomark _)) (pe_ix (ix_listK (K := K) rfl) (pv 7) pe_int (fun _ _ => rfl)) pe_non))
      (pss_cons (ps_if (PW.pt (pw_or (pt_cmpR op_ne (pe_callB (call_reprT gd hr.units) (by rfl) T.z_repr (by decide +kernel) (pa_cons (pe_g G_parting_width gd (hr.mono (by decide)) (by rfl) T.g_parting_width T.F_parting_width.kp T.b_parting_width .nil pass0 (pa_cons (pv 10) (pa_cons (pv 9) pa_nil))) pa_nil)) (pe_callB (call_reprT gd hr.units) (by rfl) T.z_repr (by decide +kernel) (pa_cons (pv 4) pa_nil)) (nomark _)) (pw_or1 (pt_cmpR op_ne (pe_callB (call_reprT gd hr.units) (by rfl) T.z_repr (by decide +kernel) (pa_cons (pe_gk G_parting_width gd (hr.mono (by decide)) (by rfl) T.g_parting_width T.F_parting_width.kp T.w_parting_width_other_one pass0 (pk_cons (pv 10) (pk_cons (pv 9) pk_nil))) pa_nil)) (pe_callB (call_reprT gd hr.units) (by rfl) T.z_repr (by decide +kernel) (pa_cons (pv 4) pa_nil)) (nomark _))))) (pss_one (ps_ret pe_bl)) pss_nil)
      (pss_cons (ps_if (pt_cmpR op_ne (pe_cmpR op_isN (pv 4) pe_non (nomark _)) (pe_cmpR (op_eqT hr.units) (pe_g G_law_plain gd (hr.mono (by decide)) (by rfl) T.g_law_plain T.F_law_plain.kp T.b_law_plain .nil pass0 (pa_cons (pv 10) pa_nil)) (pe_g G_law_plain gd (hr.mono (by decide)) (by rfl) T.g_law_plain T.F_law_plain.kp T.b_law_plain .nil pass0 (pa_cons (pv 9) pa_nil)) (nomark _)) (nomark _)) (pss_one (ps_ret pe_bl)) pss_nil)
      (pss_cons (ps_set (i := 8) sc_law_right.nd rfl (Or.inl rfl) (pe_gk G_turned_widths gd (hr.mono (by decide)) (by rfl) T.g_turned_widths T.F_turned_widths.kp T.w_turned_widths_widths pass0 (pk_cons (pe_g G_turned_widths gd (hr.mono (by decide)) (by rfl) T.g_turned_widths T.F_turned_widths.kp T.b_turned_widths .nil pass0 (pa_cons (pv 10) pa_nil)) pk_nil)))
      (pss_one (ps_ret (pe_and (pe_cmpR op_eq (pe_callB (call_reprT gd hr.units) (by rfl) T.z_repr (by decide +kernel) (pa_cons (pv 8) pa_nil)) (pe_callB (call_reprT gd hr.units) (by rfl) T.z_repr (by decide +kernel) (pa_cons (pe_g G_law_plain gd (hr.mono (by decide)) (by rfl) T.g_law_plain T.F_law_plain.kp T.b_law_plain .nil pass0 (pa_cons (pv 10) pa_nil)) pa_nil)) (nomark _)) (pe_one (pe_cmpR op_eq (pe_callB (call_reprT gd hr.units) (by rfl) T.z_repr (by decide +kernel) (pa_cons (pe_lst (pa_cons (pv 10) (pa_cons (pv 9) pa_nil))) pa_nil)) (pv 1) (nomark _))))))))))))))))))), ?_⟩
    have sm : ∀ {b : Nat}, b ≤ 1000 → b < 2 ^ 2000 := fun {b} hb => by
      have : (1000 : Nat) < 2 ^ 2000 := by decide +kernel
      omega
    have le1 : ∀ {n : Nat}, n ≤ 10000 → n ≤ sizeLine := fun h => by rw [sizeLine_eq]; omega
    refine ⟨_, rfl, a, t, m, 6, rfl, g0, by omega, by decide, by decide, fun x B U H1 x1 g1 dt1 lB u0 lU => ?_⟩
    refine ⟨_, rfl, a, t, _, 6, rfl, g1, by omega, by decide, by decide, fun y B0 U0 H2 x2 g2 dt2 lB0 u00 lU0 => ?_⟩
    refine ⟨le1 (by show 2 ≤ 10000; decide), fun p hp => ?_⟩
    have e3 := same_new' (o := .tup [x, y]) hp
    have hp3 : (upd H2 p (.tup [x, y])) p = some (.tup [x, y]) := upd_same
    have x3 := (x1.trans x2).trans (SameX.of e3)
    have g3 := g2.same e3
    have d1 := (dt1.to x2.off).to (SameX.of e3).off
    have d2 := dt2.to (SameX.of e3).off
    generalize (upd H2 p (.tup [x, y])) = H3 at e3 hp3 x3 g3 d1 d2
    refine ⟨p, _, rfl, .inl (.inl hp3), rfl, _, _, rfl, _, _, rfl, rfl, ?_⟩
    refine ⟨fun σ HB => ∃ (y : V) (B2 U2 : List Bool), σ = [some (.ref a), none, none, none, none, none, none, none, none, some y, some x, none, none, none] ∧ SameX a H HB ∧ Gn a t (m + 20000) HB ∧ Dt (off a HB) x (wdD B U) ∧ Dt (off a HB) y (wdD B2 U2) ∧ 0 < U2.length ∧ U2.length ≤ 90 ∧ B2.length ≤ 35, ?_, ?_⟩
    · refine ⟨_, rfl, a, 4, t, _, rfl, g3, by omega, by decide, sm (by decide), fun r H4 hr4 x4 g4 => ⟨rfl, _, rfl, ?_⟩⟩
      have d14 := d1.to x4.off
      have d24 := d2.to x4.off
      by_cases h4 : V.int (r : Int) = V.int 0
      · rw [decide_eq_true h4]
        refine iteT ⟨_, rfl, _, rfl, a, t, _, x, B, U, rfl, g4, by omega, d14, u0, by omega, by omega, fun y2 B2 U2 H5 x5 g5 d5 v0 v1 w1 _ => ?_⟩
        exact ⟨y2, B2, U2, rfl, (x3.trans x4).trans x5, g5.up (by omega), d14.to x5.off, d5, v0, v1, w1⟩
      · rw [decide_eq_false h4]
        exact iteF ⟨y, B0, U0, rfl, x3.trans x4, g4.up (by omega), d14, d24, u00, by omega, by omega⟩
    clear x1 x2 x3 g1 g2 g3 d1 d2 dt1 dt2 hp hp3 e3
    rintro σ HB ⟨y, B2, U2, rfl, xB, gB, dx, dy, v0, v1, w1⟩
    have S : St tt a t (m + 20000) x y B U B2 U2 H HB := ⟨Stay.of xB, tabs.ext fun b o h => off_same b o (xB.off b o h), gB, dx.on, dy.on⟩
    clear xB gB dx dy
    have lb : (blV B).length = B.length := List.length_map ..
    have lu : (blV U).length = U.length := List.length_map ..
    have lb2 : (blV B2).length = B2.length := List.length_map ..
    have lu2 : (blV U2).length = U2.length := List.length_map ..
    have kept : Shows (.list [wdD B U, wdD B2 U2]) := (two_nice (by omega) (by omega) (by omega) (by omega)).shows
    have mul540 : U.length * U2.length ≤ 540 := Nat.mul_le_mul (show U.length ≤ 6 by omega) v1
    have mulpos : 0 < U.length * U2.length := Nat.mul_pos u0 v0
    have lcm540 : Nat.lcm U.length U2.length ≤ 540 := Nat.le_trans (Nat.div_le_self _ _) mul540
    obtain ⟨xa, xb, xc, rfl, hxa, hxb, hxc⟩ := S.dx.wd
    obtain ⟨ya, yb, yc, rfl, hya, hyb, hyc⟩ := S.dy.wd
    refine ⟨_, rfl, _, rfl, le1 (by show 2 ≤ 10000; decide), fun L hL => ?_⟩
    have eL := same_new' (o := .lst [.ref xa, .ref ya]) hL
    have SL := S.same eL
    have dL : Dt (upd HB L (.lst [.ref xa, .ref ya])) (.ref L) (.list [wdD B U, wdD B2 U2]) := .lst upd_same (.cons SL.dx (.cons SL.dy .nil))
    generalize (upd HB L (.lst [.ref xa, .ref ya])) = HL at eL SL dL
    refine ⟨_, _, rfl, dL, kept, ?_⟩
    refine ⟨_, rfl, xa, _, 1, _, rfl, rfl, .inl (.inl (eL _ _ hxa)), rfl, xc, _, rfl, .inl (.inl (.inl (eL _ _ hxc))), _, rfl, ya, _, 1, _, rfl, rfl, .inl (.inl (eL _ _ hya)), rfl, yc, _, rfl, .inl (.inl (.inl (eL _ _ hyc))), _, _, rfl, rfl, (by rw [lu, lu2]; exact mulx_ok (a := 10) (b := 10) (by rw [Int.natAbs_natCast]; omega) (by rw [Int.natAbs_natCast]; omega) (by decide)), ?_⟩
    have eM : (fun i j : Int => V.int (i * j)) (U.length : Nat) (U2.length : Nat) = V.int ((U.length * U2.length : Nat) : Int) := congrArg V.int (Int.natCast_mul _ _).symm
    rw [lu, lu2, eM]
    refine ⟨_, _, rfl, _, rfl, xa, _, 0, _, rfl, rfl, .inl (.inl (eL _ _ hxa)), rfl, xb, _, rfl, .inl (.inl (.inl (eL _ _ hxb))), _, rfl, ya, _, 0, _, rfl, rfl, .inl (.inl (eL _ _ hya)), rfl, yb, _, rfl, .inl (.inl (.inl (eL _ _ hyb))), _, _, rfl, rfl, ?_⟩
    dsimp only
    rw [lb, lb2, show ((B.length : Nat) : Int) + ((B2.length : Nat) : Int) = ((B.length + B2.length : Nat) : Int) from (Int.natCast_add _ _).symm]
    clear eL dL hL hxa hxb hxc hya hyb hyc
    clear tabs g0
    have S := SL
    clear SL
    -- the three ways
    refine ⟨fun σ HB => ∃ z4 z5 z11 : Option V, σ = [some (.ref a), some (.str (PyData.list [wdD B U, wdD B2 U2]).shown), some (.int ((U.length * U2.length : Nat) : Int)), some (.int ((B.length + B2.length : Nat) : Int)), z4, z5, none, none, none, some (.ref ya), some (.ref xa), z11, none, none] ∧ St tt a t (m + 20000) (.ref xa) (.ref ya) B U B2 U2 H HB, ?_, ?_⟩
    · refine ⟨le1 (by show 3 ≤ 10000; decide), fun M hM => ?_⟩
      have eM := same_new' (o := .lst [.str "and", .str "or", .str "unlike"]) hM
      have SM := S.same eM
      have hM' : (upd HL M (.lst [.str "and", .str "or", .str "unlike"])) M = some (.lst [.str "and", .str "or", .str "unlike"]) := upd_same
      generalize (upd HL M (.lst [.str "and", .str "or", .str "unlike"])) = HM at eM SM hM'
      refine ⟨M, rfl, ⟨_, .inl (.inl hM')⟩, ?_⟩
      refine for_list (K := K) (a := M) (xs := [.str "and", .str "or", .str "unlike"]) (fun i σ H' => H' M = some (.lst [.str "and", .str "or", .str "unlike"]) ∧ St tt a t (m + 20000) (.ref xa) (.ref ya) B U B2 U2 H H' ∧ ∃ z4 z5 z11 : Option V, σ = [some (.ref a), some (.str (PyData.list [wdD B U, wdD B2 U2]).shown), some (.int ((U.length * U2.length : Nat) : Int)), some (.int ((B.length + B2.length : Nat) : Int)), z4, z5, none, none, none, some (.ref ya), some (.ref xa), z11, none, none])
        ⟨hM', SM, none, none, none, rfl⟩ (fun i σ H' _ e => .inl (.inl e.1)) ?_ ?_
      · rintro i wv σ H4 hi ⟨hM4, S4, z4, z5, z11, rfl⟩
        obtain ⟨way, rfl, isw⟩ : ∃ way : Str, wv = .str way ∧ IsWay way := by
          match i, hi with
          | 0, hi => exact ⟨_, (Option.some.inj hi).symm, .inl rfl⟩
          | 1, hi => exact ⟨_, (Option.some.inj hi).symm, .inr (.inl rfl)⟩
          | 2, hi => exact ⟨_, (Option.some.inj hi).symm, .inr (.inr rfl)⟩
          | i + 3, hi => simp at hi
        refine ⟨_, rfl, _, rfl, S4.tabs, [.str way, .ref xa, .ref ya], rfl, fun H5 f C ext5 tabs5 hC l => ?_⟩
        have x5 : Dt (putC H5 C) (.ref xa) (wdD B U) := (dt_ext S4.dx ext5).to fun b o h => putC_same hC h
        have y5 : Dt (putC H5 C) (.ref ya) (wdD B2 U2) := (dt_ext S4.dy ext5).to fun b o h => putC_same hC h
        refine ⟨B.length + B2.length, U.length * U2.length, f, C, way, _, _, B, U, B2, U2, rfl, l, x5, y5, u0, v0, by omega, mulpos, by omega, fun d H6 e6 d6 => ?_⟩
        rw [joinF_long u0 v0] at d6
        have back := lam_back hC e6
        have S7 := S4.ext (ext5.trans (LamX.ExtN.of back)) (tabs5.ext back)
        have hM7 : minC H6 C M = some (.lst [.str "and", .str "or", .str "unlike"]) := back _ _ (ext5 _ _ hM4 fun ps z => by cases z)
        have d7 := wd_min (fun b o z => e6 _ _ (putC_in z)) d6
        clear x5 y5 l e6 d6 hC tabs5 ext5 back
        revert S7 hM7 d7
        generalize minC H6 C = H7
        intro S7 hM7 d7
        dsimp only
        have jl := joinF_len (wayW way) B U B2 U2
        have sJ : Shows (wdD (joinF (wayW way) B U B2 U2).1 (joinF (wayW way) B U B2 U2).2) := wd_shows (by omega) (by omega)
        refine ⟨_, rfl, _, rfl, _, rfl, way, _, _, B, U, B2, U2, rfl, isw, ⟨S7.dx, u0, by omega, by omega⟩, ⟨S7.dy, v0, by omega, by omega⟩, by omega, fun fa fb fc H8 e8 na nb nc ne ha hb hc => ?_⟩
        have S8 := S7.same e8
        have d8 := d7.to e8
        have hM8 := e8 _ _ hM7
        have dF := Dt.wd_of ha hb hc
        dsimp only
        refine ⟨_, rfl, _, _, rfl, dF, sJ, _, rfl, _, _, rfl, d8, sJ, rfl, _, rfl, ?_⟩
        rw [veq]
        refine iteF ?_
        refine ⟨_, rfl, _, rfl, _, rfl, rfl, way, _, _, B2, U2, B, U, rfl, isw, ⟨S8.dy, v0, by omega, by omega⟩, ⟨S8.dx, u0, by omega, by omega⟩, by rw [Nat.lcm_comm]; omega, fun ga gb gc H9 e9 _ _ _ _ ga' gb' gc' => ?_⟩
        rw [joinF_comm (wayW_comm way) u0 v0] at gb' gc'
        refine ⟨_, _, rfl, Dt.wd_of ga' gb' gc', sJ, _, rfl, _, _, rfl, d8.to e9, sJ, rfl, _, rfl, ?_⟩
        rw [veq]
        refine iteF ?_
        have ha9 := e9 _ _ ha
        have hc9 := e9 _ _ hc
        refine ⟨_, rfl, fa, _, 1, _, rfl, rfl, .inl (.inl ha9), rfl, .inl ⟨rfl, _, .inl (.inl hc9)⟩, fc, _, _, rfl, rfl, hc9, by rw [List.length_map]; exact small1000 (by omega), ?_⟩
        have eA : Same H7 (upd H9 fc (.lst (blV (joinF (wayW way) B U B2 U2).2 ++ [.bl true]))) := same_keep (e8.trans e9) nc
        exact ⟨eA _ _ hM7, S7.same eA, _, _, _, rfl⟩
      · rintro σ H4 ⟨hM4, S4, z4, z5, z11, rfl⟩
        exact ⟨_, _, _, rfl, S4⟩
    clear S
    rintro σ H8 ⟨z4, z5, z11, rfl, S8⟩
    -- turned
    have notS : Shows (wdD (plainF (notL B) (notL U)).1 (plainF (notL B) (notL U)).2) := by
      have := plainF_len (notL B) (notL U)
      rw [notL_len, notL_len] at this
      exact wd_shows (by omega) (by omega)
    refine ⟨_, rfl, _, B, U, rfl, ⟨S8.dx, u0, by omega, by omega⟩, fun fa fb fc H1 e1 _ _ _ _ ha hb hc => ?_⟩
    refine ⟨_, _, rfl, Dt.wd_of ha hb hc, notS, ?_⟩
    have S1 := S8.same e1
    clear ha hb hc e1 S8
    obtain ⟨xa', xb, xc, ex, hxa, hxb, hxc⟩ := S1.dx.wd
    cases ex
    refine ⟨_, rfl, xa, _, 0, _, rfl, rfl, .inl (.inl hxa), rfl, xb, rfl, ⟨_, .inl (.inl hxb)⟩, fun D hD => ?_⟩
    refine lc_list (K := K) (a := xb) (xs := blV B) (fun i Hz => Same H1 Hz ∧ Hz D = some (.lst (blV (notL (B.take i))))) ⟨same_new' hD, upd_same⟩ (fun i Hz _ e => .inl (.inl (e.1 _ _ hxb))) ?_ ?_
    · rintro i y Hz hi ⟨s2, e2⟩
      obtain ⟨il, rfl⟩ := bl_get hi
      refine ⟨rfl, yes_if ⟨_, rfl, _, rfl, ?_⟩⟩
      refine ⟨_, e2, by rw [List.length_map, notL_len, List.length_take, sizeLine_eq]; omega, same_keep s2 hD, ?_⟩
      rw [upd_same, notL_step il]
    rintro H2 ⟨s2, e2⟩
    rw [show (blV B).length = B.length from List.length_map .., List.take_length] at e2
    dsimp only [gName]
    refine ⟨_, rfl, xa, _, 1, _, rfl, rfl, .inl (.inl (s2 _ _ hxa)), rfl, xc, rfl, ⟨_, .inl (.inl (s2 _ _ hxc))⟩, fun D2 hD2 => ?_⟩
    refine lc_list (K := K) (a := xc) (xs := blV U) (fun i Hz => Same H2 Hz ∧ Hz D2 = some (.lst (blV (notL (U.take i))))) ⟨same_new' hD2, upd_same⟩ (fun i Hz _ e => .inl (.inl (e.1 _ _ (s2 _ _ hxc)))) ?_ ?_
    · rintro i y Hz hi ⟨s3, e3⟩
      obtain ⟨il, rfl⟩ := bl_get hi
      refine ⟨rfl, yes_if ⟨_, rfl, _, rfl, ?_⟩⟩
      refine ⟨_, e3, by rw [List.length_map, notL_len, List.length_take, sizeLine_eq]; omega, same_keep s3 hD2, ?_⟩
      rw [upd_same, notL_step il]
    rintro H3 ⟨s3, e3⟩
    rw [show (blV U).length = U.length from List.length_map .., List.take_length] at e3
    refine ⟨le1 (by show 2 ≤ 10000; decide), fun p hp => ?_⟩
    have e4 := same_new' (o := .tup [.ref D, .ref D2]) hp
    have ok4 : WdOk _ (.ref p) (notL B) (notL U) := ⟨.wd_of upd_same (e4 _ _ (s3 _ _ e2)) (e4 _ _ e3), by rw [notL_len]; exact u0, by rw [notL_len]; omega, by rw [notL_len]; omega⟩
    have S4 := S1.same ((s2.trans s3).trans e4)
    revert ok4 S4
    generalize (upd H3 p (.tup [.ref D, .ref D2])) = H4
    intro ok4 S4
    refine ⟨_, _, _, rfl, ok4, fun d H5 e5 d5 => ⟨_, _, rfl, d5, notS, rfl, _, rfl, ?_⟩⟩
    rw [veq]
    refine iteF ?_
    have S5 := S4.same e5
    clear ok4 S4 S1 e5 d5 e4 e3 e2 s2 s3 hxa hxb hxc hp hD hD2
    -- later
    refine ⟨_, rfl, a, 101, t, _, rfl, S5.g, by omega, by decide, sm (by decide), fun n H6 hn x6 g6 => ?_⟩
    have S6 := S5.x x6 g6
    clear S5 x6 g6
    have sL : Shows (wdD (plainF (List.replicate n false ++ B) U).1 (plainF (List.replicate n false ++ B) U).2) := by
      have := plainF_len (List.replicate n false ++ B) U
      rw [List.length_append, List.length_replicate] at this
      exact wd_shows (by omega) (by omega)
    refine ⟨_, rfl, _, rfl, rfl, _, B, U, n, rfl, by omega, ⟨S6.dx, u0, by omega, by omega⟩, by omega, fun fa fb fc H1 e1 _ _ _ _ ha hb hc => ?_⟩
    refine ⟨_, _, rfl, Dt.wd_of ha hb hc, sL, ?_⟩
    have S1 := S6.same e1
    clear ha hb hc e1 S6
    obtain ⟨xa', xb, xc, ex, hxa, hxb, hxc⟩ := S1.dx.wd
    cases ex
    refine ⟨le1 (by show 1 ≤ 10000; decide), fun r hr' => ?_⟩
    have e2 := same_new' (o := .lst [.bl false]) hr'
    refine ⟨_, rfl, r, n, _, rfl, rfl, upd_same, by omega, by omega, by rw [Int.toNat_natCast, sizeLine_eq]; show 1 * n ≤ _; omega, fun p hp => ?_⟩
    rw [Int.toNat_natCast, bl_falses]
    have e3 := same_new' (o := .lst (blV (List.replicate n false))) hp
    have hp3 : upd (upd H1 r (.lst [.bl false])) p (.lst (blV (List.replicate n false))) p = some (.lst (blV (List.replicate n false))) := upd_same
    have s3 := e2.trans e3
    generalize (upd (upd H1 r (.lst [.bl false])) p (.lst (blV (List.replicate n false)))) = H3 at s3 hp3
    refine ⟨_, rfl, xa, _, 0, _, rfl, rfl, .inl (.inl (s3 _ _ hxa)), rfl, p, xb, _, _, rfl, rfl, hp3, s3 _ _ hxb, by rw [List.length_map, List.length_map, List.length_replicate, sizeLine_eq]; omega, fun p4 hp4 => ?_⟩
    rw [show blV (List.replicate n false) ++ blV B = blV (List.replicate n false ++ B) from (List.map_append ..).symm]
    have e4 := same_new' (o := .lst (blV (List.replicate n false ++ B))) hp4
    have s4 := s3.trans e4
    have hp5 : upd H3 p4 (.lst (blV (List.replicate n false ++ B))) p4 = _ := upd_same
    generalize (upd H3 p4 (.lst (blV (List.replicate n false ++ B)))) = H4 at s4 hp5
    refine ⟨_, rfl, xa, _, 1, _, rfl, rfl, .inl (.inl (s4 _ _ hxa)), rfl, le1 (by show 2 ≤ 10000; decide), fun p6 hp6 => ?_⟩
    have e6 := same_new' (o := .tup [.ref p4, .ref xc]) hp6
    have ok6 : WdOk _ (.ref p6) (List.replicate n false ++ B) U := ⟨.wd_of upd_same (e6 _ _ hp5) (e6 _ _ (s4 _ _ hxc)), u0, by rw [List.length_append, List.length_replicate]; omega, by omega⟩
    have S4 := S1.same (s4.trans e6)
    revert ok6 S4
    generalize (upd H4 p6 (.tup [.ref p4, .ref xc])) = H5
    intro ok6 S4
    refine ⟨_, _, _, rfl, ok6, fun d H6 e6 d6 => ⟨_, _, rfl, d6, sL, rfl, _, rfl, ?_⟩⟩
    rw [veq]
    refine iteF ?_
    have S6 := S4.same e6
    clear ok6 S4 S1 e6 d6 e4 e3 e2 s3 s4 hxa hxb hxc hp hp3 hp4 hp5 hp6 hr' hn sL
    -- what is unlike
    refine ⟨_, rfl, _, rfl, _, _, rfl, rfl, ((B.length + B2.length + U.length * U2.length : Nat) : Int), rfl, by omega, by omega, fun D hD => ?_⟩
    rw [Int.toNat_natCast]
    refine lc_range (lo := 0) (n := B.length + B2.length + U.length * U2.length) (fun i H' => Same H6 H' ∧ H' D = some (.lst (natV ((List.range i).filter (diffW B U B2 U2))))) ⟨same_new' hD, upd_same⟩ ?_ ?_
    · rintro i H' hi ⟨s3, e3⟩
      rw [Int.zero_add]
      have S7 := S6.same s3
      refine ⟨rfl, _, rfl, _, rfl, _, B, U, i, rfl, S7.dx, u0, _, rfl, _, rfl, _, B2, U2, i, rfl, S7.dy, v0, rfl, _, rfl, ?_⟩
      rw [dec_bl]
      have fl := filt_len (diffW B U B2 U2) i
      have fs := filt_step (diffW B U B2 U2) i
      cases hv : (itemW B U i != itemW B2 U2 i) with
      | true =>
        have hv : diffW B U B2 U2 i = true := hv
        rw [if_pos hv] at fs
        refine iteT ⟨_, rfl, _, e3, by rw [natV_len]; exact small1000 (by omega), same_keep s3 hD, ?_⟩
        rw [upd_same, fs, natV_snoc]
      | false =>
        have hv : diffW B U B2 U2 i = false := hv
        rw [if_neg (by rw [hv]; exact Bool.false_ne_true), List.append_nil] at fs
        exact iteF ⟨s3, by rw [fs]; exact e3⟩
    rintro H7 ⟨s7, e7⟩
    have S7 := S6.same s7
    clear S6 s7 hD
    dsimp only [gName]
    have first := filter_first (diffW B U B2 U2) (B.length + B2.length + U.length * U2.length)
    rw [partF_long u0 v0] at first
    have fl := filt_len (diffW B U B2 U2) (B.length + B2.length + U.length * U2.length)
    revert first e7 fl
    generalize (List.range (B.length + B2.length + U.length * U2.length)).filter (diffW B U B2 U2) = l
    intro e7 first fl
    refine ⟨fun σ HB => ∃ z4 z11 : Option V, σ = [some (.ref a), some (.str (PyData.list [wdD B U, wdD B2 U2]).shown), some (.int ((U.length * U2.length : Nat) : Int)), some (.int ((B.length + B2.length : Nat) : Int)), some (optV (partF B U B2 U2)), z4, some (.int (n : Int)), some (.ref D), none, some (.ref ya), some (.ref xa), z11, none, none] ∧ ∃ m', St tt a t m' (.ref xa) (.ref ya) B U B2 U2 H HB, ?_, ?_⟩
    · refine ⟨_, rfl, Nat.zero_le _, fun y hy => ?_⟩
      have ey := same_new' (o := .lst []) hy
      have Sy := S7.same ey
      have e7y := ey _ _ e7
      have hy' : (upd H7 y (.lst [])) y = some (.lst []) := upd_same
      generalize (upd H7 y (.lst [])) = Hy at Sy e7y hy'
      refine ⟨_, _, Dt.nats e7y, .lst hy' .nil, nats_shaped l, by decide +kernel, _, rfl, ?_⟩
      rw [nil_eqv]
      cases l with
      | nil => exact iteF ⟨_, _, by rw [← first]; rfl, _, Sy⟩
      | cons v r => exact iteT ⟨_, rfl, D, _, 0, .int v, rfl, rfl, .inl (.inl e7y), atI_nat (show (natV (v :: r))[0]? = some (V.int (v : Int)) from rfl), _, _, by rw [← first]; rfl, _, Sy⟩
    clear S7 first e7 fl
    rintro σ H9 ⟨z4, z11, rfl, m', S9⟩
    have sP : Shows (optD (partF B U B2 U2)) := part_shows (by omega)
    refine ⟨_, rfl, _, rfl, _, _, B, U, B2, U2, rfl, ⟨S9.dx, u0, by omega, by omega⟩, ⟨S9.dy, v0, by omega, by omega⟩, fun H10 e10 => ?_⟩
    refine ⟨_, _, rfl, Dt.opt _, sP, _, rfl, _, _, rfl, Dt.opt _, sP, rfl, _, rfl, ?_⟩
    rw [veq]
    have S10 := S9.same e10
    refine iteF ⟨_, rfl, _, rfl, rfl, _, _, B2, U2, B, U, rfl, ⟨S10.dy, v0, by omega, by omega⟩, ⟨S10.dx, u0, by omega, by omega⟩, fun H11 e11 => ?_⟩
    rw [partF_comm (B := B) (U := U) (B2 := B2) (U2 := U2)]
    refine ⟨_, _, rfl, Dt.opt _, sP, _, rfl, _, _, rfl, Dt.opt _, sP, rfl, _, rfl, ?_⟩
    rw [veq]
    have S11 := S10.same e11
    clear S9 S10 e10 e11
    have lp := plainF_len B U
    have lp2 := plainF_len B2 U2
    have nP := wd_nice (A := (plainF B U).1) (T := (plainF B U).2) (by omega) (by omega)
    have nP2 := wd_nice (A := (plainF B2 U2).1) (T := (plainF B2 U2).2) (by omega) (by omega)
    refine iteF ⟨_, rfl, rfl, _, rfl, _, B, U, rfl, ⟨S11.dx, u0, by omega, by omega⟩, fun d H12 e12 d12 => ?_⟩
    have S12 := S11.same e12
    refine ⟨_, rfl, _, B2, U2, rfl, ⟨S12.dy, v0, by omega, by omega⟩, fun d2 H13 e13 d13 => ?_⟩
    have S13 := S12.same e13
    refine ⟨_, _, d12.to e13, d13, nP.shaped, nP2.shaped, rfl, _, rfl, ?_⟩
    rw [← part_none u0 v0]
    clear d12 d13 e12 e13 S11 S12 nP2
    have same : (!decide (V.bl (decide (optV (partF B U B2 U2) = V.non)) = V.bl (decide (optV (partF B U B2 U2) = V.non)))) = false := by
      rw [decide_eq_true rfl]
      rfl
    rw [same]
    refine iteF ?_
    -- turned twice
    have ln := plainF_len (notL B) (notL U)
    rw [notL_len, notL_len] at ln
    have pn := plainF_pos (A := notL B) (T := notL U) (by rw [notL_len]; exact u0)
    refine ⟨_, rfl, _, B, U, rfl, ⟨S13.dx, u0, by omega, by omega⟩, fun fa fb fc H14 e14 _ _ _ _ ha hb hc => ?_⟩
    refine ⟨rfl, _, _, _, rfl, ⟨.wd_of ha hb hc, pn, by omega, by omega⟩, fun ga gb gc H15 e15 _ _ _ _ ga' gb' gc' => ?_⟩
    rw [not_twice u0] at gb' gc'
    have S15 := (S13.same e14).same e15
    clear S13 e14 e15 ha hb hc
    have dT := Dt.wd_of ga' gb' gc'
    clear ga' gb' gc'
    refine ⟨_, rfl, _, _, rfl, dT, nP.shows, _, rfl, _, B, U, rfl, ⟨S15.dx, u0, by omega, by omega⟩, fun d H16 e16 d16 => ?_⟩
    refine ⟨_, _, rfl, d16, nP.shows, rfl, _, rfl, ?_⟩
    rw [veq]
    have S16 := S15.same e16
    refine iteT ?_
    refine ⟨_, rfl, _, rfl, le1 (by show 2 ≤ 10000; decide), fun L2 hL2 => ?_⟩
    have eL := same_new' (o := .lst [.ref xa, .ref ya]) hL2
    have S17 := S16.same eL
    refine ⟨_, _, rfl, .lst upd_same (.cons S17.dx (.cons S17.dy .nil)), kept, _, rfl, rfl, ?_⟩
    have q := q _ S17.stay S17.tabs
    rw [← veq (PyData.list [wdD B U, wdD B2 U2]).shown] at q
    exact q

end

end K41

set_option Elab.async false
set_option linter.all false
set_option maxRecDepth 100000
set_option maxHeartbeats 4000000
namespace K41
open PySem PySem.Spec PyProof.Rows L2 Hw
section
variable {P : Program} {w : World} {K : PySem.W.Frag} {mg : Str → Option Value} {base : Heap}

def w1 : List Bool := true :: List.replicate 10 false
def w2 : List Bool := true :: List.replicate 16 false
def wideW : List Bool × List Bool := joinF (wayW "or") [] w1 [] w2
theorem j1 : joinF (wayW "and") [] [false, true] [] [true, false, false] = ([], [false, false, false, true, false, false]) := by decide +kernel
theorem j2 : plainF (notL []) (notL [false, true]) = ([], [true, false]) := by decide +kernel
theorem j3 : partF [] [false, true] [] [true, false, false] = some 0 := by decide +kernel
theorem j4 : partF [] [false, true] [] [false, true] = none := by decide +kernel
theorem j5 : plainF (List.replicate 2 false ++ []) [true, false, false] = ([], [false, false, true]) := by decide +kernel
theorem j6 : partF [] (List.replicate 6 true ++ [false]) [] (List.replicate 10 true ++ [false]) = some 6 := by decide +kernel
theorem wide_len : wideW.2.length = 187 := by decide +kernel
theorem wide_ahead : wideW.1.length ≤ 0 := (joinF_len (wayW "or") [] w1 [] w2).1
theorem wide_pos : 0 < wideW.2.length := by rw [wide_len]; decide
theorem wide_twice : plainF wideW.1 wideW.2 = wideW := plainF_twice (by rw [tellL_len]; decide)
theorem wide_item (w : Nat) : itemW wideW.1 wideW.2 w = wayW "or" (itemW [] w1 w) (itemW [] w2 w) := by
  have p : 0 < Nat.lcm w1.length w2.length := by decide
  show itemW (plainF _ _).1 (plainF _ _).2 w = _
  rw [plainF_item (by rw [tellL_len]; exact p), item_tell p (bothW_short (wayW "or") [] w1 [] w2)]
  rfl
theorem wide_at : itemW wideW.1 wideW.2 (187 * 10 ^ 20 + 11) = true := by
  rw [wide_item]
  decide +kernel
def toldD : List PyData := [wdD [] [false, false, false, true, false, false], wdD [] [true, false], .int 0, .none, wdD [] [false, false, true]]
theorem toldS : Shows (.list toldD) := Nice.shows (Bnd.nice (k := 3) (b := 200) ⟨by decide +kernel, by decide +kernel, by decide +kernel⟩ (by decide) (by decide))
theorem sq_nt {K : PySem.W.Frag} {H : Hp} {a : Addr} {xs : List V} (h : SqL K H a xs) : SqL K (nt H) a xs := by
  rcases h with (h | ⟨o, h⟩) | h
  · exact .inl (.inl (nt_of h fun ps z => by cases z))
  · exact .inl (.inr ⟨o, nt_of h fun ps z => by cases z⟩)
  · exact .inr h
def spLaw (K : PySem.W.Frag) (tt : Addr) : Sp := fun vs H Q _ => ∃ (a : Addr) (ns : List Int), vs = [.ref a] ∧ ns.length ≤ 63 ∧ SqL K H a (ns.map V.int) ∧ H tt = some (.tbl #[]) ∧ ∀ H' : Hp, Q (.bl true) H'
theorem ok_law {c tt : Addr} (T : Tx K mg) (hcode : T.d_law_right.code = .ref c) (TB : LamX.TabB base mg c tt) : FnG P w K mg base CX0 7 T.a_law T.d_law ["_law_script"] (spLaw K tt) := by
  have G_law_generator := ok_law_generator (P := P) (w := w) (base := base) T
  have G_law_right := ok_law_right (P := P) (w := w) (base := base) T hcode TB
  have G_is_widths := ok_is_widths (P := P) (w := w) (base := base) T
  have G_has_width := ok_has_width (P := P) (w := w) (base := base) T
  have G_joined_widths := ok_joined_widths (P := P) (w := w) (base := base) T
  have G_turned_widths := ok_turned_widths (P := P) (w := w) (base := base) T
  have G_later_widths := ok_later_widths (P := P) (w := w) (base := base) T
  have G_parting_width := ok_parting_width (P := P) (w := w) (base := base) T
  refine bodyG0 T.F_law sc_law (fun vs H Q E h => ?_) (fun cdv A outer s H vs Q E gd hr h => ?_)
  · obtain ⟨a, ns, rfl, _⟩ := h; rfl
  · obtain ⟨a, ns, rfl, _, hS, hT, q⟩ := h
    refine ⟨_, (pss_cons (ps_for PassesOwn.never rfl (pi_range1 (by rfl) T.z_range (pa_cons pe_int pa_nil)) (pg_name (i := 1) sc_law.nd rfl (Or.inl rfl)) (pss_one (ps_if (pt_not (pt_val (pe_g G_law_right gd (hr.mono (by decide)) (by rfl) T.g_law_right T.F_law_right.kp T.b_law_right .nil pass0 (pa_cons (pe_g G_law_generator gd (hr.mono (by decide)) (by rfl) T.g_law_generator T.F_law_generator.kp T.b_law_generator .nil pass0 (pa_cons (pv 0) (pa_cons (pv 1) pa_nil))) pa_nil)))) (pss_one (ps_ret pe_bl)) pss_nil)))
      (pss_cons (ps_par (i := 2) (j := 3) rfl sc_law.nd rfl rfl (by decide) rfl rfl (pa_cons (pe_tup (pa_cons (pe_lst pa_nil) (pa_cons (pe_lst (pa_cons pe_bl (pa_cons pe_bl pa_nil))) pa_nil))) (pa_cons (pe_tup (pa_cons (pe_lst pa_nil) (pa_cons (pe_lst (pa_cons pe_bl (pa_cons pe_bl (pa_cons pe_bl pa_nil)))) pa_nil))) pa_nil)) (by rfl))
      (pss_cons (ps_set (i := 4) sc_law.nd rfl (Or.inl rfl) (pe_lst (pa_cons (pe_g G_joined_widths gd (hr.mono (by decide)) (by rfl) T.g_joined_widths T.F_joined_widths.kp T.b_joined_widths .nil pass0 (pa_cons pe_str (pa_cons (pv 2) (pa_cons (pv 3) pa_nil)))) (pa_cons (pe_g G_turned_widths gd (hr.mono (by decide)) (by rfl) T.g_turned_widths T.F_turned_widths.kp T.b_turned_widths .nil pass0 (pa_cons (pv 2) pa_nil)) (pa_cons (pe_g G_parting_width gd (hr.mono (by decide)) (by rfl) T.g_parting_width T.F_parting_width.kp T.b_parting_width .nil pass0 (pa_cons (pv 2) (pa_cons (pv 3) pa_nil))) (pa_cons (pe_g G_parting_width gd (hr.mono (by decide)) (by rfl) T.g_parting_width T.F_parting_width.kp T.b_parting_width .nil pass0 (pa_cons (pv 2) (pa_cons (pv 2) pa_nil))) (pa_cons (pe_g G_later_widths gd (hr.mono (by decide)) (by rfl) T.g_later_widths T.F_later_widths.kp T.b_later_widths .nil pass0 (pa_cons (pv 3) (pa_cons pe_int pa_nil))) pa_nil)))))))
      (pss_cons (ps_set (i := 5) sc_law.nd rfl (Or.inl rfl) (pe_lst (pa_cons (pe_tup (pa_cons (pe_lst pa_nil) (pa_cons (pe_lst (pa_cons pe_bl (pa_cons pe_bl (pa_cons pe_bl (pa_cons pe_bl (pa_cons pe_bl (pa_cons pe_bl pa_nil))))))) pa_nil))) (pa_cons (pe_tup (pa_cons (pe_lst pa_nil) (pa_cons (pe_lst (pa_cons pe_bl (pa_cons pe_bl pa_nil))) pa_nil))) (pa_cons pe_int (pa_cons pe_non (pa_cons (pe_tup (pa_cons (pe_lst pa_nil) (pa_cons (pe_lst (pa_cons pe_bl (pa_cons pe_bl (pa_cons pe_bl pa_nil)))) pa_nil))) pa_nil)))))))
      (pss_cons (ps_set (i := 6) sc_law.nd rfl (Or.inl rfl) (pe_g G_joined_widths gd (hr.mono (by decide)) (by rfl) T.g_joined_widths T.F_joined_widths.kp T.b_joined_widths .nil pass0 (pa_cons pe_str (pa_cons (pe_tup (pa_cons (pe_lst pa_nil) (pa_cons (pe_op op_cat (pe_lst (pa_cons pe_bl pa_nil)) (pe_op op_rep (pe_lst (pa_cons pe_bl pa_nil)) pe_int)) pa_nil))) (pa_cons (pe_tup (pa_cons (pe_lst pa_nil) (pa_cons (pe_op op_cat (pe_lst (pa_cons pe_bl pa_nil)) (pe_op op_rep (pe_lst (pa_cons pe_bl pa_nil)) pe_int)) pa_nil))) pa_nil)))))
      (pss_cons (ps_if (PW.pt (pw_or (pt_cmpR op_isnot_bl (pe_g G_is_widths gd (hr.mono (by decide)) (by rfl) T.g_is_widths T.F_is_widths.kp T.b_is_widths .nil pass0 (pa_cons (pv 6) pa_nil)) pe_bl (nomark _)) (pw_or (pt_cmpR op_ne (pe_callB (call_lenK (K := K) rfl) (by rfl) T.z_len (by decide +kernel) (pa_cons (pe_ix (ix_tupK (K := K) rfl) (pv 6) pe_int (fun _ _ => rfl)) pa_nil)) pe_int (nomark _)) (pw_or (pt_cmpR op_ne (pe_callB (call_reprT gd hr.units) (by rfl) T.z_repr (by decide +kernel) (pa_cons (pe_g G_turned_widths gd (hr.mono (by decide)) (by rfl) T.g_turned_widths T.F_turned_widths.kp T.b_turned_widths .nil pass0 (pa_cons (pe_g G_turned_widths gd (hr.mono (by decide)) (by rfl) T.g_turned_widths T.F_turned_widths.kp T.b_turned_widths .nil pass0 (pa_cons (pv 6) pa_nil)) pa_nil)) pa_nil)) (pe_callB (call_reprT gd hr.units) (by rfl) T.z_repr (by decide +kernel) (pa_cons (pv 6) pa_nil)) (nomark _)) (pw_or1 (pt_cmpR op_isnot_bl (pe_g G_has_width gd (hr.mono (by decide)) (by rfl) T.g_has_width T.F_has_width.kp T.b_has_width .nil pass0 (pa_cons (pv 6) (pa_cons (pe_op op_add (pe_op op_mulX pe_int (pe_op op_powW pe_int pe_int)) pe_int) pa_nil))) pe_bl (nomark _))))))) (pss_one (ps_ret pe_bl)) pss_nil)
      (pss_one (ps_ret (pe_and (pe_cmpR op_eq (pe_callB (call_reprT gd hr.units) (by rfl) T.z_repr (by decide +kernel) (pa_cons (pv 4) pa_nil)) (pe_callB (call_reprT gd hr.units) (by rfl) T.z_repr (by decide +kernel) (pa_cons (pv 5) pa_nil)) (nomark _)) (pe_one (pe_cmpR (op_eqT hr.units) (pe_g G_parting_width gd (hr.mono (by decide)) (by rfl) T.g_parting_width T.F_parting_width.kp T.b_parting_width .nil pass0 (pa_cons (pe_tup (pa_cons (pe_lst pa_nil) (pa_cons (pe_op op_cat (pe_op op_rep (pe_lst (pa_cons pe_bl pa_nil)) pe_int) (pe_lst (pa_cons pe_bl pa_nil))) pa_nil))) (pa_cons (pe_tup (pa_cons (pe_lst pa_nil) (pa_cons (pe_op op_cat (pe_op op_rep (pe_lst (pa_cons pe_bl pa_nil)) pe_int) (pe_lst (pa_cons pe_bl pa_nil))) pa_nil))) pa_nil))) pe_int (nomark _)))))))))))), ?_⟩
    have sz1 : ∀ {n : Nat}, n ≤ 1000 → n ≤ sizeLine := fun {n} h => by rw [sizeLine_eq]; omega
    have tabs0 : LamX.Tabs [(tt, Lq)] H := fun p hp => by
      rw [List.mem_singleton.mp hp]
      exact LamX.TabS.nil hT
    refine ⟨2, rfl, by decide, by decide, for_range (n := 2) (fun i σ H' => ∃ y : Option V, σ = [some (.ref a), y, none, none, none, none, none] ∧ SqL K H' a (ns.map V.int) ∧ LamX.Tabs [(tt, Lq)] H') ⟨none, rfl, hS, tabs0⟩ ?_ ?_⟩
    · rintro i σ H1 hi ⟨y, rfl, s1, tabs⟩
      refine ⟨_, rfl, _, rfl, a, ns, i, by rw [Int.zero_add]; rfl, by omega, s1, fun g H2 s t c s2 hg e2 ok => ?_⟩
      refine ⟨g, t, 1000 * (i : Int), rfl, ⟨s, c, e2, ok⟩, by omega, tabs.ext fun b o hb => off_of (ne_of_none hb hg) (s2 _ _ hb), fun H3 st tabs3 => ⟨true, rfl, iteF ⟨_, rfl, ?_, tabs3⟩⟩⟩
      have s13 : Same (nt H1) H3 := fun b o hb => by
        have hb' : H1 b = some o ∧ ∀ ps, o ≠ .tbl ps := by
          unfold nt at hb
          split at hb
          · cases hb
          · rename_i o' hn
            exact ⟨hb, fun ps z => hn ps (by rw [hb, z])⟩
        exact st b o (ne_of_none hb'.1 hg) (s2 _ _ hb'.1) hb'.2
      exact s13.seq (sq_nt s1)
    · rintro σ H1 ⟨y, rfl, s1, _⟩
      clear s1
      refine ⟨sz1 (by show 0 ≤ 1000; decide), fun p1 hp1 => ⟨sz1 (by show 2 ≤ 1000; decide), fun q1 hq1 => ⟨sz1 (by show 2 ≤ 1000; decide), fun a1 ha1 => ?_⟩⟩⟩
      obtain ⟨e1, d1⟩ := lit_wd (A := []) (T := [false, true]) hp1 hq1 ha1
      refine ⟨sz1 (by show 0 ≤ 1000; decide), fun p2 hp2 => ⟨sz1 (by show 3 ≤ 1000; decide), fun q2 hq2 => ⟨sz1 (by show 2 ≤ 1000; decide), fun a2 ha2 => ?_⟩⟩⟩
      obtain ⟨e2, d2⟩ := lit_wd (A := []) (T := [true, false, false]) hp2 hq2 ha2
      have d1 := d1.to e2
      clear e1 e2
      refine ⟨_, _, rfl, ?_⟩
      have k1 := fun (H' : Hp) (e : Same _ H') => (⟨d1.to e, by decide, by decide, by decide⟩ : WdOk H' (.ref a1) [] [false, true])
      have k2 := fun (H' : Hp) (e : Same _ H') => (⟨d2.to e, by decide, by decide, by decide⟩ : WdOk H' (.ref a2) [] [true, false, false])
      refine ⟨_, rfl, _, rfl, "and", _, _, _, _, _, _, rfl, .inl rfl, k1 _ (Same.refl _), k2 _ (Same.refl _), by decide, fun f1 g1 l1 H3 s3 _ _ _ _ hf1 hg1 hl1 => ?_⟩
      rw [j1] at hg1 hl1
      have r1 := Dt.wd_of hf1 hg1 hl1
      refine ⟨_, rfl, _, _, _, rfl, k1 _ s3, fun f2 g2 l2 H4 s4 _ _ _ _ hf2 hg2 hl2 => ?_⟩
      rw [j2] at hg2 hl2
      have r2 := Dt.wd_of hf2 hg2 hl2
      have r1 := r1.to s4
      have s4 := s3.trans s4
      refine ⟨_, rfl, _, rfl, _, _, _, _, _, _, rfl, k1 _ s4, k2 _ s4, fun H5 s5 => ?_⟩
      rw [j3]
      have r1 := r1.to s5
      have r2 := r2.to s5
      have s5 := s4.trans s5
      refine ⟨_, rfl, _, rfl, _, _, _, _, _, _, rfl, k1 _ s5, k1 _ s5, fun H6 s6 => ?_⟩
      rw [j4]
      have r1 := r1.to s6
      have r2 := r2.to s6
      have s6 := s5.trans s6
      refine ⟨_, rfl, _, _, _, 2, rfl, by decide, k2 _ s6, by decide, fun f5 g5 l5 H7 s7 _ _ _ _ hf5 hg5 hl5 => ?_⟩
      rw [j5] at hg5 hl5
      have r5 := Dt.wd_of hf5 hg5 hl5
      have r1 := r1.to s7
      have r2 := r2.to s7
      refine ⟨sz1 (by show 5 ≤ 1000; decide), fun L hL => ?_⟩
      have eL := same_new' (o := .lst [.ref f1, .ref f2, optV (some 0), optV none, .ref f5]) hL
      have dL : Dt (upd H7 L (.lst [.ref f1, .ref f2, optV (some 0), optV none, .ref f5])) (.ref L) (.list toldD) := .lst upd_same (.cons (r1.to eL) (.cons (r2.to eL) (.cons (.int 0) (.cons .non (.cons (r5.to eL) .nil)))))
      clear r1 r2 r5 eL hL k1 k2 s3 s4 s5 s6 s7 hf1 hg1 hl1 hf2 hg2 hl2 hf5 hg5 hl5 d1 d2
      revert dL
      generalize (upd H7 L (.lst [.ref f1, .ref f2, optV (some 0), optV none, .ref f5])) = H8
      intro dL
      dsimp only [gName]
      refine ⟨sz1 (by show 0 ≤ 1000; decide), fun p11 hp11 => ⟨sz1 (by show 6 ≤ 1000; decide), fun q11 hq11 => ⟨sz1 (by show 2 ≤ 1000; decide), fun a11 ha11 => ?_⟩⟩⟩
      obtain ⟨e11, d11⟩ := lit_wd (A := []) (T := [false, false, false, true, false, false]) hp11 hq11 ha11
      have dL := dL.to e11
      refine ⟨sz1 (by show 0 ≤ 1000; decide), fun p12 hp12 => ⟨sz1 (by show 2 ≤ 1000; decide), fun q12 hq12 => ⟨sz1 (by show 2 ≤ 1000; decide), fun a12 ha12 => ?_⟩⟩⟩
      obtain ⟨e12, d12⟩ := lit_wd (A := []) (T := [true, false]) hp12 hq12 ha12
      have dL := dL.to e12
      have d11 := d11.to e12
      refine ⟨sz1 (by show 0 ≤ 1000; decide), fun p13 hp13 => ⟨sz1 (by show 3 ≤ 1000; decide), fun q13 hq13 => ⟨sz1 (by show 2 ≤ 1000; decide), fun a13 ha13 => ?_⟩⟩⟩
      obtain ⟨e13, d13⟩ := lit_wd (A := []) (T := [false, false, true]) hp13 hq13 ha13
      have dL := dL.to e13
      have d11 := d11.to e13
      have d12 := d12.to e13
      refine ⟨sz1 (by show 5 ≤ 1000; decide), fun L2 hL2 => ?_⟩
      have eL := same_new' (o := .lst [.ref a11, .ref a12, .int 0, .non, .ref a13]) hL2
      have dx : Dt (upd _ L2 (.lst [.ref a11, .ref a12, .int 0, .non, .ref a13])) (.ref L2) (.list toldD) := .lst upd_same (.cons (d11.to eL) (.cons (d12.to eL) (.cons (.int 0) (.cons .non (.cons (d13.to eL) .nil)))))
      have dL := dL.to eL
      clear d11 d12 d13 e11 e12 e13 eL hL2
      revert dL dx
      generalize (upd _ L2 (.lst [.ref a11, .ref a12, .int 0, .non, .ref a13])) = H9
      intro dx dL
      dsimp only [gName]
      -- the wide one
      refine ⟨Nat.zero_le _, fun b11 hb11 => ⟨sz1 (by show 1 ≤ 1000; decide), fun b12 hb12 => ⟨sz1 (by show 1 ≤ 1000; decide), fun b13 hb13 => ⟨b13, 10, _, rfl, rfl, upd_same, by decide, by decide, sz1 (by show 1 * 10 ≤ 1000; decide), fun b14 hb14 => ?_⟩⟩⟩⟩
      have c11 := same_new' (o := .lst []) hb11
      have c12 := same_new' (o := .lst [V.bl true]) hb12
      have c13 := same_new' (o := .lst [V.bl false]) hb13
      have c14 := same_new' (o := .lst (List.replicate (Int.toNat 10) [V.bl false]).flatten) hb14
      refine ⟨b12, b14, _, _, rfl, rfl, c14 _ _ (c13 _ _ upd_same), upd_same, sz1 (by decide), fun b15 hb15 => ⟨sz1 (by show 2 ≤ 1000; decide), fun b16 hb16 => ?_⟩⟩
      have c15 := same_new' (o := .lst ([V.bl true] ++ (List.replicate (Int.toNat 10) [V.bl false]).flatten)) hb15
      have c16 := same_new' (o := .tup [.ref b11, .ref b15]) hb16
      have v1 : Dt _ (.ref b16) (wdD [] w1) := .wd_of upd_same ((c12.trans (c13.trans (c14.trans (c15.trans c16)))) _ _ upd_same) (c16 _ _ upd_same)
      have s1 := c11.trans (c12.trans (c13.trans (c14.trans (c15.trans c16))))
      have dL := dL.to s1
      have dx := dx.to s1
      clear c11 c12 c13 c14 c15 c16 hb11 hb12 hb13 hb14 hb15 hb16 s1
      revert v1 dL dx
      generalize (upd _ b16 (.tup [.ref b11, .ref b15])) = HA
      intro v1 dL dx
      refine ⟨Nat.zero_le _, fun b21 hb21 => ⟨sz1 (by show 1 ≤ 1000; decide), fun b22 hb22 => ⟨sz1 (by show 1 ≤ 1000; decide), fun b23 hb23 => ⟨b23, 16, _, rfl, rfl, upd_same, by decide, by decide, sz1 (by show 1 * 16 ≤ 1000; decide), fun b24 hb24 => ?_⟩⟩⟩⟩
      have c21 := same_new' (o := .lst []) hb21
      have c22 := same_new' (o := .lst [V.bl true]) hb22
      have c23 := same_new' (o := .lst [V.bl false]) hb23
      have c24 := same_new' (o := .lst (List.replicate (Int.toNat 16) [V.bl false]).flatten) hb24
      refine ⟨b22, b24, _, _, rfl, rfl, c24 _ _ (c23 _ _ upd_same), upd_same, sz1 (by decide), fun b25 hb25 => ⟨sz1 (by show 2 ≤ 1000; decide), fun b26 hb26 => ?_⟩⟩
      have c25 := same_new' (o := .lst ([V.bl true] ++ (List.replicate (Int.toNat 16) [V.bl false]).flatten)) hb25
      have c26 := same_new' (o := .tup [.ref b21, .ref b25]) hb26
      have v2 : Dt _ (.ref b26) (wdD [] w2) := .wd_of upd_same ((c22.trans (c23.trans (c24.trans (c25.trans c26)))) _ _ upd_same) (c26 _ _ upd_same)
      have s2 := c21.trans (c22.trans (c23.trans (c24.trans (c25.trans c26))))
      have dL := dL.to s2
      have dx := dx.to s2
      have v1 := v1.to s2
      clear c21 c22 c23 c24 c25 c26 hb21 hb22 hb23 hb24 hb25 hb26 s2
      revert v2 dL dx v1
      generalize (upd _ b26 (.tup [.ref b21, .ref b25])) = HB
      intro v2 dL dx v1
      refine ⟨"or", _, _, [], w1, [], w2, rfl, .inr (.inl rfl), ⟨v1, by decide, by decide, by decide⟩, ⟨v2, by decide, by decide, by decide⟩, by decide, fun wf wg wl HC eC _ _ _ _ hwf hwg hwl => ?_⟩
      have dW : Dt HC (.ref wf) (wdD wideW.1 wideW.2) := .wd_of hwf hwg hwl
      have dL := dL.to eC
      have dx := dx.to eC
      have okW : ∀ {H'}, Same HC H' → WdOk H' (.ref wf) wideW.1 wideW.2 := fun e => ⟨dW.to e, wide_pos, Nat.le_trans wide_ahead (by decide), by rw [wide_len]; decide⟩
      clear v1 v2 eC
      dsimp only [gName]
      refine ⟨_, rfl, _, _, rfl, dW, wid_few (Nat.le_trans wide_ahead (by decide)) (by rw [wide_len]; decide), fun HD eD => ?_⟩
      rw [wid_good wide_pos]
      have okD := okW eD
      refine ⟨true, true, rfl, rfl, _, rfl, iteF ?_⟩
      obtain ⟨wf', wa, wb, ew, hwf, hwa, hwb⟩ := okD.dt.wd
      cases ew
      refine ⟨_, rfl, wf, _, 1, _, rfl, rfl, .inl (.inl hwf), rfl, wb, _, rfl, .inl (.inl (.inl hwb)), rfl, _, rfl, ?_⟩
      rw [show (blV wideW.2).length = 187 from (List.length_map ..).trans wide_len]
      refine iteF ?_
      have sW : Shows (wdD wideW.1 wideW.2) := (wd_nice (Nat.le_trans wide_ahead (by decide)) (by rw [wide_len]; decide)).shows
      have lN := plainF_len (notL wideW.1) (notL wideW.2)
      rw [notL_len, notL_len, wide_len] at lN
      have lA := wide_ahead
      have pN : 0 < (plainF (notL wideW.1) (notL wideW.2)).2.length := plainF_pos (by rw [notL_len]; exact wide_pos)
      refine ⟨_, rfl, _, _, _, rfl, okD, fun fa fb fc HE eE _ _ _ _ ha hb hc => ?_⟩
      refine ⟨_, _, _, rfl, ⟨.wd_of ha hb hc, pN, by omega, by omega⟩, fun ga gb gc HF eF _ _ _ _ ga' gb' gc' => ?_⟩
      rw [not_twice wide_pos, wide_twice] at gb' gc'
      have okF := okD.to (eE.trans eF)
      have eF := eD.trans (eE.trans eF)
      refine ⟨_, _, rfl, .wd_of ga' gb' gc', sW, _, rfl, _, _, rfl, okF.dt, sW, rfl, _, rfl, ?_⟩
      rw [veq]
      refine iteF ?_
      refine ⟨_, rfl, _, _, rfl, rfl, powW_ok (n := 4) (j := 20) (by decide) (by decide), _, _, rfl, rfl, (by exact mulx_ok (a := 10) (b := 100) (by decide) (by decide +kernel) (by decide)), _, _, rfl, rfl, ?_⟩
      refine ⟨.ref wf, _, _, 187 * 10 ^ 20 + 11, by rfl, okF, fun HG eG => ?_⟩
      rw [wide_at]
      refine ⟨true, true, rfl, rfl, _, rfl, iteF ?_⟩
      have dL := (dL.to eF).to eG
      have dx := (dx.to eF).to eG
      refine ⟨_, rfl, _, _, rfl, dL, toldS, _, rfl, _, _, rfl, dx, toldS, rfl, _, rfl, ?_⟩
      rw [veq]
      refine iteT ?_
      clear dL dx okF okD okW eF eG eE eD ga' gb' gc' ha hb hc hwf hwa hwb sW lN pN
      refine ⟨Nat.zero_le _, fun n11 hn11 => ⟨sz1 (by show 1 ≤ 1000; decide), fun n12 hn12 => ⟨n12, 6, _, rfl, rfl, upd_same, by decide, by decide, sz1 (by show 1 * 6 ≤ 1000; decide), fun n13 hn13 => ⟨sz1 (by show 1 ≤ 1000; decide), fun n14 hn14 => ?_⟩⟩⟩⟩
      have d11 := same_new' (o := .lst []) hn11
      have d12 := same_new' (o := .lst [V.bl true]) hn12
      have d13 := same_new' (o := .lst (List.replicate (Int.toNat 6) [V.bl true]).flatten) hn13
      have d14 := same_new' (o := .lst [V.bl false]) hn14
      refine ⟨n13, n14, _, _, rfl, rfl, d14 _ _ upd_same, upd_same, sz1 (by decide), fun n15 hn15 => ⟨sz1 (by show 2 ≤ 1000; decide), fun n16 hn16 => ?_⟩⟩
      have d15 := same_new' (o := .lst ((List.replicate (Int.toNat 6) [V.bl true]).flatten ++ [V.bl false])) hn15
      have d16 := same_new' (o := .tup [.ref n11, .ref n15]) hn16
      have x1 : Dt _ (.ref n16) (wdD [] (List.replicate 6 true ++ [false])) := .wd_of upd_same ((d12.trans (d13.trans (d14.trans (d15.trans d16)))) _ _ upd_same) (d16 _ _ upd_same)
      have y1 := d11.trans (d12.trans (d13.trans (d14.trans (d15.trans d16))))
      clear d11 d12 d13 d14 d15 d16 hn11 hn12 hn13 hn14 hn15 hn16 y1
      revert x1 
      generalize (upd _ n16 (.tup [.ref n11, .ref n15])) = HX
      intro x1 
      refine ⟨Nat.zero_le _, fun n21 hn21 => ⟨sz1 (by show 1 ≤ 1000; decide), fun n22 hn22 => ⟨n22, 10, _, rfl, rfl, upd_same, by decide, by decide, sz1 (by show 1 * 10 ≤ 1000; decide), fun n23 hn23 => ⟨sz1 (by show 1 ≤ 1000; decide), fun n24 hn24 => ?_⟩⟩⟩⟩
      have d21 := same_new' (o := .lst []) hn21
      have d22 := same_new' (o := .lst [V.bl true]) hn22
      have d23 := same_new' (o := .lst (List.replicate (Int.toNat 10) [V.bl true]).flatten) hn23
      have d24 := same_new' (o := .lst [V.bl false]) hn24
      refine ⟨n23, n24, _, _, rfl, rfl, d24 _ _ upd_same, upd_same, sz1 (by decide), fun n25 hn25 => ⟨sz1 (by show 2 ≤ 1000; decide), fun n26 hn26 => ?_⟩⟩
      have d25 := same_new' (o := .lst ((List.replicate (Int.toNat 10) [V.bl true]).flatten ++ [V.bl false])) hn25
      have d26 := same_new' (o := .tup [.ref n21, .ref n25]) hn26
      have x2 : Dt _ (.ref n26) (wdD [] (List.replicate 10 true ++ [false])) := .wd_of upd_same ((d22.trans (d23.trans (d24.trans (d25.trans d26)))) _ _ upd_same) (d26 _ _ upd_same)
      have y2 := d21.trans (d22.trans (d23.trans (d24.trans (d25.trans d26))))
      have x1 := x1.to y2
      clear d21 d22 d23 d24 d25 d26 hn21 hn22 hn23 hn24 hn25 hn26 y2
      revert x2 x1
      generalize (upd _ n26 (.tup [.ref n21, .ref n25])) = HY
      intro x2 x1
      refine ⟨_, _, [], _, [], _, rfl, ⟨x1, by decide, by decide, by decide⟩, ⟨x2, by decide, by decide, by decide⟩, fun HZ eZ => ?_⟩
      rw [j6]
      refine ⟨_, _, .int 6, .int 6, by decide +kernel, by decide +kernel, ?_⟩
      exact q _

end

end K41

set_option Elab.async false
set_option linter.all false
set_option maxRecDepth 100000
set_option maxHeartbeats 4000000
namespace K41E
open PySem PySem.Spec PyProof.Rows L2 Hw K41
/-- the tuple of the ways, and lcm -/
def waysIn (K : PySem.W.Frag) : Addr := match PySem.W.nsIn K mainGlobals "WAYS" with
  | some (some (.ref a)) => a
  | _ => 0
def isStr (v : Value) (x : Str) : Bool := match v with
  | .str y _ => decide (y = x)
  | _ => false
def chk (K : PySem.W.Frag) : Bool :=
  decide (PySem.W.nsIn K mainGlobals "WAYS" = some (some (.ref (waysIn K)))) && decide (PySem.W.nsIn K mainGlobals "lcm" = some (some (.builtin "math.lcm"))) &&
  (match K.lookup (waysIn K) with
  | some ⟨.type "tuple", _, .seq its _, _⟩ => (match its.toList with
    | [u, v, x] => isStr u "and" && isStr v "or" && isStr x "unlike"
    | _ => false)
  | _ => false)
theorem isStr_ok {v : Value} {x : Str} (h : isStr v x = true) : L2.RelV (.str x) v := by
  unfold isStr at h
  split at h
  · rename_i y t
    rw [of_decide_eq_true h]
    exact ⟨t, rfl⟩
  · cases h
theorem chk_ok {K : PySem.W.Frag} {h : Heap} {mg : Str → Option Value} (X : K.In h) (G : h.Ns mainGlobals mg) (c : chk K = true) : (∃ u, mg "WAYS" = some u ∧ L2.RelV (.ref (waysIn K)) u) ∧ WaysAt K (waysIn K) ∧ mg "lcm" = some (.builtin "math.lcm") := by
  unfold chk at c
  obtain ⟨c, c3⟩ := Bool.and_eq_true_iff.mp c
  obtain ⟨c1, c2⟩ := Bool.and_eq_true_iff.mp c
  refine ⟨⟨_, PySem.W.mg_of X G (of_decide_eq_true c1), rfl⟩, ?_, PySem.W.mg_of X G (of_decide_eq_true c2)⟩
  split at c3
  · rename_i d its n sl look
    split at c3
    · rename_i u v x e
      obtain ⟨c3, k3⟩ := Bool.and_eq_true_iff.mp c3
      obtain ⟨k1, k2⟩ := Bool.and_eq_true_iff.mp c3
      refine ⟨_, its, n, look, rfl, rfl, ?_, ?_⟩
      · rw [← Array.length_toList, e, sizeLine_eq]; show 3 ≤ _; decide
      · rw [e]; exact .cons (isStr_ok k1) (.cons (isStr_ok k2) (.cons (isStr_ok k3) .nil))
    · cases c3
  · cases c3
end K41E
/-! ### the end -/
namespace K41E
open PySem PySem.Spec PyProof.Rows L2 Hw K41
def d_is_whole : He.DefD := ⟨("is_whole", none), "is_whole", "is_whole", defArgs s_is_whole, defBody s_is_whole, defScope s_is_whole, [], []⟩
def d_is_count : He.DefD := ⟨("is_count", none), "is_count", "is_count", defArgs s_is_count, defBody s_is_count, defScope s_is_count, [], []⟩
def d_is_count_to : He.DefD := ⟨("is_count_to", none), "is_count_to", "is_count_to", defArgs s_is_count_to, defBody s_is_count_to, defScope s_is_count_to, [], []⟩
def d_is_widths : He.DefD := ⟨("is_widths", none), "is_widths", "is_widths", defArgs s_is_widths, defBody s_is_widths, defScope s_is_widths, [], []⟩
def d_are_told : He.DefD := ⟨("are_told", none), "are_told", "are_told", defArgs s_are_told, defBody s_are_told, defScope s_are_told, [], []⟩
def d_check_widths : He.DefD := ⟨("check_widths", none), "check_widths", "check_widths", defArgs s_check_widths, defBody s_check_widths, defScope s_check_widths, [], []⟩
def d_check_wide : He.DefD := ⟨("check_wide", none), "check_wide", "check_wide", defArgs s_check_wide, defBody s_check_wide, defScope s_check_wide, [], []⟩
def d_has_width : He.DefD := ⟨("has_width", none), "has_width", "has_width", defArgs s_has_width, defBody s_has_width, defScope s_has_width, [], []⟩
def d_is_in : He.DefD := ⟨("is_in", none), "is_in", "is_in", defArgs s_is_in, defBody s_is_in, defScope s_is_in, [], []⟩
def d_made_plain : He.DefD := ⟨("made_plain", none), "made_plain", "made_plain", defArgs s_made_plain, defBody s_made_plain, defScope s_made_plain, [], []⟩
def d_shortest_turn : He.DefD := ⟨("shortest_turn", none), "shortest_turn", "shortest_turn", defArgs s_shortest_turn, defBody s_shortest_turn, defScope s_shortest_turn, [], []⟩
def d_joined_widths : He.DefD := ⟨("joined_widths", none), "joined_widths", "joined_widths", defArgs s_joined_widths, defBody s_joined_widths, defScope s_joined_widths, [], []⟩
def d_are_joined : He.DefD := ⟨("are_joined", none), "are_joined", "are_joined", defArgs s_are_joined, defBody s_are_joined, defScope s_are_joined, [], []⟩
def d_common_lengths : He.DefD := ⟨("common_lengths", none), "common_lengths", "common_lengths", defArgs s_common_lengths, defBody s_common_lengths, defScope s_common_lengths, [], []⟩
def d_turned_widths : He.DefD := ⟨("turned_widths", none), "turned_widths", "turned_widths", defArgs s_turned_widths, defBody s_turned_widths, defScope s_turned_widths, [], []⟩
def d_parting_width : He.DefD := ⟨("parting_width", none), "parting_width", "parting_width", defArgs s_parting_width, defBody s_parting_width, defScope s_parting_width, [], []⟩
def d_later_widths : He.DefD := ⟨("later_widths", none), "later_widths", "later_widths", defArgs s_later_widths, defBody s_later_widths, defScope s_later_widths, [], []⟩
def d_law_hash : He.DefD := ⟨("_law_hash", none), "_law_hash", "_law_hash", defArgs s_law_hash, defBody s_law_hash, defScope s_law_hash, [], []⟩
def d_law_random : He.DefD := ⟨("_law_random", none), "_law_random", "_law_random", defArgs s_law_random, defBody s_law_random, defScope s_law_random, [], []⟩
def d_law_cell : He.DefD := ⟨("_law_cell", none), "_law_cell", "_law_cell", defArgs s_law_cell, defBody s_law_cell, defScope s_law_cell, [], []⟩
def d_law_generator : He.DefD := ⟨("_law_generator", none), "_law_generator", "_law_generator", defArgs s_law_generator, defBody s_law_generator, defScope s_law_generator, [], []⟩
def d_law_item : He.DefD := ⟨("_law_item", none), "_law_item", "_law_item", defArgs s_law_item, defBody s_law_item, defScope s_law_item, [], []⟩
def d_law_plain : He.DefD := ⟨("_law_plain", none), "_law_plain", "_law_plain", defArgs s_law_plain, defBody s_law_plain, defScope s_law_plain, [], []⟩
def d_law_set : He.DefD := ⟨("_law_set", none), "_law_set", "_law_set", defArgs s_law_set, defBody s_law_set, defScope s_law_set, [], []⟩
def d_law_put_longer : He.DefD := ⟨("_law_put_longer", none), "_law_put_longer", "_law_put_longer", defArgs s_law_put_longer, defBody s_law_put_longer, defScope s_law_put_longer, [], []⟩
def d_law_of_items : He.DefD := ⟨("_law_of_items", none), "_law_of_items", "_law_of_items", defArgs s_law_of_items, defBody s_law_of_items, defScope s_law_of_items, [], []⟩
def d_law_way : He.DefD := ⟨("_law_way", none), "_law_way", "_law_way", defArgs s_law_way, defBody s_law_way, defScope s_law_way, [], []⟩
def d_law_right : He.DefD := ⟨("_law_right", none), "_law_right", "_law_right", defArgs s_law_right, defBody s_law_right, defScope s_law_right, [], []⟩
def d_law : He.DefD := ⟨("law", none), "law", "law", defArgs s_law, defBody s_law, defScope s_law, [], []⟩
def fn : List He.DefD := [d_is_whole, d_is_count, d_is_count_to, d_is_widths, d_are_told, d_check_widths, d_check_wide, d_has_width, d_is_in, d_made_plain, d_shortest_turn, d_joined_widths, d_are_joined, d_common_lengths, d_turned_widths, d_parting_width, d_later_widths, d_law_hash, d_law_random, d_law_cell, d_law_generator, d_law_item, d_law_plain, d_law_set, d_law_put_longer, d_law_of_items, d_law_way, d_law_right, d_law]
def fa : List He.Fa := [.glo "is_whole", .glo "is_count", .glo "is_count_to", .glo "is_widths", .glo "are_told", .glo "check_widths", .glo "check_wide", .glo "has_width", .glo "is_in", .glo "made_plain", .glo "shortest_turn", .glo "joined_widths", .glo "are_joined", .glo "common_lengths", .glo "turned_widths", .glo "parting_width", .glo "later_widths", .glo "_law_hash", .glo "_law_random", .glo "_law_cell", .glo "_law_generator", .glo "_law_item", .glo "_law_plain", .glo "_law_set", .glo "_law_put_longer", .glo "_law_of_items", .glo "_law_way", .glo "_law_right", .glo "law", .free "all", .free "bool", .free "int", .free "isinstance", .free "len", .free "list", .free "max", .free "range", .free "repr", .free "sum", .free "tuple", .int "MOST_LATER" 100]
abbrev R : PySem.W.OpenRow := PySem.W.OpenLaw.row PySem.Challenge.rw_howeverwide_k41_whole_widths_joined
abbrev hk : PySem.W.Hook := hookT 4 "_law_right" fa fn chk
def ob (s : PySem.W.SharedT) : He.AlD × Bool := obsT 4 "_law_right" fa fn chk (HandSHeadRun.getT s)
theorem ob_eq (s : PySem.W.SharedT) : ob s = hk.obs s.abs := obsT_eq (HandSHeadRun.getT_eq s)
def loose0 : List PySem.Str := ["ClaimError", "InvalidNumber", "InvalidName", "InvalidWidth", "InvalidWidths", "is_whole", "is_count", "is_count_to", "MOST_LATER", "WAYS", "is_widths", "are_told", "check_widths", "check_wide", "has_width", "is_in", "made_plain", "shortest_turn", "joined_widths"]
def loose1 : List PySem.Str := ["are_joined", "common_lengths", "turned_widths", "parting_width", "later_widths", "_law_hash", "_law_random", "_law_cell", "_law_generator", "_law_item", "_law_plain", "_law_set", "_law_put_longer", "_law_of_items", "_law_way", "_law_right"]
def loose : List PySem.Str := loose0 ++ loose1
theorem run (w : World) : HandSHeadRun.RunEqI R (PySem.W.view R.prog [0, 40]) hk ob 6000 loose w := by
  unfold HandSHeadRun.RunEqI
  kernel_rfl
theorem facts {P : Program} {w : World} {K : PySem.W.Frag} {h : Heap} {mg : Str → Option Value} {f cc tt : Addr} (X : K.In h) (G : h.Ns mainGlobals mg) (hfa : mg ("law" : Str) = some (.ref f)) (c : He.SaysD fa fn K) (ck : chk K = true) (hcc : codeAt (fun _ => none) K "_law_right" = cc) :
    ∃ fd : FuncData, (∀ (s : Shared) (v : Value), BindsTo s fd ⟨[v], []⟩ [("_law_script", v)]) ∧ ∀ base : Heap, K.In base → base.Ns mainGlobals mg → LamX.TabB base mg cc tt → FnG P w K mg base CX0 7 f fd ["_law_script"] (spLaw K tt) := by
  obtain ⟨e_is_whole, F_is_whole⟩ := c.def_ 0 (d := d_is_whole) rfl
  obtain ⟨e_is_count, F_is_count⟩ := c.def_ 1 (d := d_is_count) rfl
  obtain ⟨e_is_count_to, F_is_count_to⟩ := c.def_ 2 (d := d_is_count_to) rfl
  obtain ⟨e_is_widths, F_is_widths⟩ := c.def_ 3 (d := d_is_widths) rfl
  obtain ⟨e_are_told, F_are_told⟩ := c.def_ 4 (d := d_are_told) rfl
  obtain ⟨e_check_widths, F_check_widths⟩ := c.def_ 5 (d := d_check_widths) rfl
  obtain ⟨e_check_wide, F_check_wide⟩ := c.def_ 6 (d := d_check_wide) rfl
  obtain ⟨e_has_width, F_has_width⟩ := c.def_ 7 (d := d_has_width) rfl
  obtain ⟨e_is_in, F_is_in⟩ := c.def_ 8 (d := d_is_in) rfl
  obtain ⟨e_made_plain, F_made_plain⟩ := c.def_ 9 (d := d_made_plain) rfl
  obtain ⟨e_shortest_turn, F_shortest_turn⟩ := c.def_ 10 (d := d_shortest_turn) rfl
  obtain ⟨e_joined_widths, F_joined_widths⟩ := c.def_ 11 (d := d_joined_widths) rfl
  obtain ⟨e_are_joined, F_are_joined⟩ := c.def_ 12 (d := d_are_joined) rfl
  obtain ⟨e_common_lengths, F_common_lengths⟩ := c.def_ 13 (d := d_common_lengths) rfl
  obtain ⟨e_turned_widths, F_turned_widths⟩ := c.def_ 14 (d := d_turned_widths) rfl
  obtain ⟨e_parting_width, F_parting_width⟩ := c.def_ 15 (d := d_parting_width) rfl
  obtain ⟨e_later_widths, F_later_widths⟩ := c.def_ 16 (d := d_later_widths) rfl
  obtain ⟨e_law_hash, F_law_hash⟩ := c.def_ 17 (d := d_law_hash) rfl
  obtain ⟨e_law_random, F_law_random⟩ := c.def_ 18 (d := d_law_random) rfl
  obtain ⟨e_law_cell, F_law_cell⟩ := c.def_ 19 (d := d_law_cell) rfl
  obtain ⟨e_law_generator, F_law_generator⟩ := c.def_ 20 (d := d_law_generator) rfl
  obtain ⟨e_law_item, F_law_item⟩ := c.def_ 21 (d := d_law_item) rfl
  obtain ⟨e_law_plain, F_law_plain⟩ := c.def_ 22 (d := d_law_plain) rfl
  obtain ⟨e_law_set, F_law_set⟩ := c.def_ 23 (d := d_law_set) rfl
  obtain ⟨e_law_put_longer, F_law_put_longer⟩ := c.def_ 24 (d := d_law_put_longer) rfl
  obtain ⟨e_law_of_items, F_law_of_items⟩ := c.def_ 25 (d := d_law_of_items) rfl
  obtain ⟨e_law_way, F_law_way⟩ := c.def_ 26 (d := d_law_way) rfl
  obtain ⟨e_law_right, F_law_right⟩ := c.def_ 27 (d := d_law_right) rfl
  obtain ⟨e_law, F_law⟩ := c.def_ 28 (d := d_law) rfl
  have g_is_whole := He.glo_ok X G (c.fact 0 (f := .glo "is_whole") rfl)
  have g_is_count := He.glo_ok X G (c.fact 1 (f := .glo "is_count") rfl)
  have g_is_count_to := He.glo_ok X G (c.fact 2 (f := .glo "is_count_to") rfl)
  have g_is_widths := He.glo_ok X G (c.fact 3 (f := .glo "is_widths") rfl)
  have g_are_told := He.glo_ok X G (c.fact 4 (f := .glo "are_told") rfl)
  have g_check_widths := He.glo_ok X G (c.fact 5 (f := .glo "check_widths") rfl)
  have g_check_wide := He.glo_ok X G (c.fact 6 (f := .glo "check_wide") rfl)
  have g_has_width := He.glo_ok X G (c.fact 7 (f := .glo "has_width") rfl)
  have g_is_in := He.glo_ok X G (c.fact 8 (f := .glo "is_in") rfl)
  have g_made_plain := He.glo_ok X G (c.fact 9 (f := .glo "made_plain") rfl)
  have g_shortest_turn := He.glo_ok X G (c.fact 10 (f := .glo "shortest_turn") rfl)
  have g_joined_widths := He.glo_ok X G (c.fact 11 (f := .glo "joined_widths") rfl)
  have g_are_joined := He.glo_ok X G (c.fact 12 (f := .glo "are_joined") rfl)
  have g_common_lengths := He.glo_ok X G (c.fact 13 (f := .glo "common_lengths") rfl)
  have g_turned_widths := He.glo_ok X G (c.fact 14 (f := .glo "turned_widths") rfl)
  have g_parting_width := He.glo_ok X G (c.fact 15 (f := .glo "parting_width") rfl)
  have g_later_widths := He.glo_ok X G (c.fact 16 (f := .glo "later_widths") rfl)
  have g_law_hash := He.glo_ok X G (c.fact 17 (f := .glo "_law_hash") rfl)
  have g_law_random := He.glo_ok X G (c.fact 18 (f := .glo "_law_random") rfl)
  have g_law_cell := He.glo_ok X G (c.fact 19 (f := .glo "_law_cell") rfl)
  have g_law_generator := He.glo_ok X G (c.fact 20 (f := .glo "_law_generator") rfl)
  have g_law_item := He.glo_ok X G (c.fact 21 (f := .glo "_law_item") rfl)
  have g_law_plain := He.glo_ok X G (c.fact 22 (f := .glo "_law_plain") rfl)
  have g_law_set := He.glo_ok X G (c.fact 23 (f := .glo "_law_set") rfl)
  have g_law_put_longer := He.glo_ok X G (c.fact 24 (f := .glo "_law_put_longer") rfl)
  have g_law_of_items := He.glo_ok X G (c.fact 25 (f := .glo "_law_of_items") rfl)
  have g_law_way := He.glo_ok X G (c.fact 26 (f := .glo "_law_way") rfl)
  have g_law_right := He.glo_ok X G (c.fact 27 (f := .glo "_law_right") rfl)
  have g_law := He.glo_ok X G (c.fact 28 (f := .glo "law") rfl)
  have i_MOST_LATER : ∃ u, mg "MOST_LATER" = some u ∧ RelV (.int 100) u := by
    obtain ⟨t, q⟩ := He.int_ok X G (c.fact 40 (f := .int "MOST_LATER" 100) rfl)
    exact ⟨_, q, t, rfl⟩
  have e := hfa.symm.trans g_law
  cases e
  obtain ⟨ck1, ck2, ck3⟩ := chk_ok X G ck
  let T : Tx K mg := { ways := waysIn K, c_WAYS := ck1, atWays := ck2, m_lcm := ck3, a_is_whole := _, d_is_whole := e_is_whole, F_is_whole := F_is_whole, g_is_whole := g_is_whole, a_is_count := _, d_is_count := e_is_count, F_is_count := F_is_count, g_is_count := g_is_count, a_is_count_to := _, d_is_count_to := e_is_count_to, F_is_count_to := F_is_count_to, g_is_count_to := g_is_count_to, a_is_widths := _, d_is_widths := e_is_widths, F_is_widths := F_is_widths, g_is_widths := g_is_widths, a_are_told := _, d_are_told := e_are_told, F_are_told := F_are_told, g_are_told := g_are_told, a_check_widths := _, d_check_widths := e_check_widths, F_check_widths := F_check_widths, g_check_widths := g_check_widths, a_check_wide := _, d_check_wide := e_check_wide, F_check_wide := F_check_wide, g_check_wide := g_check_wide, a_has_width := _, d_has_width := e_has_width, F_has_width := F_has_width, g_has_width := g_has_width, a_is_in := _, d_is_in := e_is_in, F_is_in := F_is_in, g_is_in := g_is_in, a_made_plain := _, d_made_plain := e_made_plain, F_made_plain := F_made_plain, g_made_plain := g_made_plain, a_shortest_turn := _, d_shortest_turn := e_shortest_turn, F_shortest_turn := F_shortest_turn, g_shortest_turn := g_shortest_turn, a_joined_widths := _, d_joined_widths := e_joined_widths, F_joined_widths := F_joined_widths, g_joined_widths := g_joined_widths, a_are_joined := _, d_are_joined := e_are_joined, F_are_joined := F_are_joined, g_are_joined := g_are_joined, a_common_lengths := _, d_common_lengths := e_common_lengths, F_common_lengths := F_common_lengths, g_common_lengths := g_common_lengths, a_turned_widths := _, d_turned_widths := e_turned_widths, F_turned_widths := F_turned_widths, g_turned_widths := g_turned_widths, a_parting_width := _, d_parting_width := e_parting_width, F_parting_width := F_parting_width, g_parting_width := g_parting_width, a_later_widths := _, d_later_widths := e_later_widths, F_later_widths := F_later_widths, g_later_widths := g_later_widths, a_law_hash := _, d_law_hash := e_law_hash, F_law_hash := F_law_hash, g_law_hash := g_law_hash, a_law_random := _, d_law_random := e_law_random, F_law_random := F_law_random, g_law_random := g_law_random, a_law_cell := _, d_law_cell := e_law_cell, F_law_cell := F_law_cell, g_law_cell := g_law_cell, a_law_generator := _, d_law_generator := e_law_generator, F_law_generator := F_law_generator, g_law_generator := g_law_generator, a_law_item := _, d_law_item := e_law_item, F_law_item := F_law_item, g_law_item := g_law_item, a_law_plain := _, d_law_plain := e_law_plain, F_law_plain := F_law_plain, g_law_plain := g_law_plain, a_law_set := _, d_law_set := e_law_set, F_law_set := F_law_set, g_law_set := g_law_set, a_law_put_longer := _, d_law_put_longer := e_law_put_longer, F_law_put_longer := F_law_put_longer, g_law_put_longer := g_law_put_longer, a_law_of_items := _, d_law_of_items := e_law_of_items, F_law_of_items := F_law_of_items, g_law_of_items := g_law_of_items, a_law_way := _, d_law_way := e_law_way, F_law_way := F_law_way, g_law_way := g_law_way, a_law_right := _, d_law_right := e_law_right, F_law_right := F_law_right, g_law_right := g_law_right, a_law := _, d_law := e_law, F_law := F_law, g_law := g_law, z_all := He.free_ok X G (c.fact 29 (f := .free "all") rfl), z_bool := He.free_ok X G (c.fact 30 (f := .free "bool") rfl), z_int := He.free_ok X G (c.fact 31 (f := .free "int") rfl), z_isinstance := He.free_ok X G (c.fact 32 (f := .free "isinstance") rfl), z_len := He.free_ok X G (c.fact 33 (f := .free "len") rfl), z_list := He.free_ok X G (c.fact 34 (f := .free "list") rfl), z_max := He.free_ok X G (c.fact 35 (f := .free "max") rfl), z_range := He.free_ok X G (c.fact 36 (f := .free "range") rfl), z_repr := He.free_ok X G (c.fact 37 (f := .free "repr") rfl), z_sum := He.free_ok X G (c.fact 38 (f := .free "sum") rfl), z_tuple := He.free_ok X G (c.fact 39 (f := .free "tuple") rfl), c_MOST_LATER := i_MOST_LATER }
  have b := FunD.bindsA (ps := ["_law_script"]) F_law fun _ _ _ _ _ _ us hl => match us, hl with | [_], _ => rfl
  exact ⟨e_law, fun s v => b s [v] rfl, fun base _ _ TB => ok_law T (by rw [← hcc]; exact code_of (x := "_law_right") (y := "_law_right") (st := s_law_right) F_law_right (by rfl)) TB⟩
end K41E
open PySem PySem.W PySem.Calls PyProof.Rows
set_option maxRecDepth 100000 in
set_option maxHeartbeats 0 in
theorem PySem.Challenge.cw_howeverwide_k41_whole_widths_joined_holds : PySem.Challenge.rw_howeverwide_k41_whole_widths_joined.Holds := by
  w_on; o_law
  refine HandSHeadRun.head_imp (r := OpenLaw.row PySem.Challenge.rw_howeverwide_k41_whole_widths_joined) (q := view (OpenLaw.row PySem.Challenge.rw_howeverwide_k41_whole_widths_joined).prog [0, 40]) (H := K41E.hk) (ob := K41E.ob) (M := 6000) (loose := K41E.loose) (d := HandSHeadRun.topDef (OpenLaw.row PySem.Challenge.rw_howeverwide_k41_whole_widths_joined).prog 40) (kwd := []) K41E.ob_eq
    K41E.run (by kernel_rfl) (by kernel_rfl) (by kernel_rfl) (by rfl) (by first | assumption | decide +kernel) (by decide +kernel) ⟨rfl, rfl, rfl, rfl, rfl, by decide +kernel⟩ ?hw ?hc
  case hw => w_witness2
  case hc =>
    refine Hw.walkT (l := PySem.Challenge.rw_howeverwide_k41_whole_widths_joined) (n := 63) (k := 7) (x := "_law_script") rfl (by decide) (by kernel_rfl) ⟨rfl, by decide, by decide⟩ ?F
    intro w mg fa h Y G hmg0
    obtain ⟨K, cc, tt, KX, sx, hd, tab, noT, hcc⟩ := Y
    have hmg : mg ("law" : PySem.Str) = some (.ref fa) := by
      have e : (HandSHeadRun.topDef (OpenLaw.row PySem.Challenge.rw_howeverwide_k41_whole_widths_joined).prog 40).name = ("law" : PySem.Str) := by kernel_rfl
      rw [← e]
      exact hmg0
    obtain ⟨fd, hb, hF⟩ := K41E.facts (P := (PySem.Challenge.rw_howeverwide_k41_whole_widths_joined).prog) (w := w) KX G hmg sx.says.1 sx.says.2 hcc
    exact ⟨K, fd, K41.spLaw K tt, cc, tt, KX, tab, noT, PySem.W.codeHd_of_K KX hd, hb, fun H a ns hl hT hS => ⟨a, ns, rfl, hl, hS, hT, fun _ => rfl⟩, hF⟩
