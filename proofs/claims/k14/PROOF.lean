import PyProof.Rows.All
import Wide.All
import OpenK.AllK
import Wide.FinOn
import PyProof.ReprRoads
import HandS.Base
import HandS.Call
import HandS.List
import HandS.Comp
import HandS.Ends
import HandS.Words
import HandS.Wide
import HandS.WideBits
import HandS.IsInst
import HandS.Defaults
import HandS.Flow
import HandS.Walk
import HandS.Codes
import HandS.Conv
import HandS.ForMost
import HandS.TupAny
import HandS.TupLe
import HandS.Dict
import KE.KFromBytes
import HandS.Exc
import HandS.ExcInit
import HandS.ExcField
import KE.KExcIs
import HandS.MakeKw
import HandS.HeadHook1
import HandS.ExcValue
import KE.KEqDict
import HandS.HeadHook2
import KE.KLam
import HandS.Lambda
import HandS.EndBits
import PyProof.OldK
import HandS.NestedK
import PySem.Challenge.RW_howeverwide_k14_whole_stands_reached
import HandS.Style
import KE.KStateDown
import Lean
import HandS.Head0
import HandS.Head1
import HandS.Head2
import HandS.HeadEnd
set_option Elab.async false
set_option linter.all false
set_option maxRecDepth 100000
set_option maxHeartbeats 4000000
/-! A layer of ours over HandS: defs whose runs know that no repr stands around them (so that repr of lists may be shown), calls by keywords alone, repr of data, powers. -/
namespace Hw
open PySem PySem.Spec PyProof.Rows L2

/-- no repr is under way -/
abbrev Gd (A : Around) : Prop := A.guards = some []

section
variable (P : Program) (w : World) (K : PySem.W.Frag) (mg : Str → Option Value) (base : Heap) (CX : CXT)
/-- a def's promise where no repr is under way -/
structure FnG (k : Nat) (f : Addr) (fd : FuncData) (ps : List Str) (sp : Sp) : Prop where
  arity : ∀ vs H Q E, sp vs H Q E → vs.length = ps.length
  go : ∀ (A : Around) (outer : List Env) (s : Shared) (H : Hp) (args : Args) (us : List Value) (vs : List V) (Q : VK) (E : XK),
    Gd A → Room k A → Env0 P w K mg base A outer s H → BindsTo s fd args (ps.zip us) → Vals vs us → sp vs H Q E → codeAny (model P w) A (.call (.ref f) args) (CR CX outer P w H s Q E) s
end
section
variable {P : Program} {w : World} {K : PySem.W.Frag} {mg : Str → Option Value} {base : Heap} {CX : CXT}
theorem FnG.up {j k : Nat} {f : Addr} {fd : FuncData} {ps : List Str} {sp : Sp} (F : FnG P w K mg base CX j f fd ps sp) (h : j ≤ k) : FnG P w K mg base CX k f fd ps sp :=
  ⟨F.arity, fun A outer s H args us vs Q E g r => F.go A outer s H args us vs Q E g (r.mono h)⟩
theorem FnG.weak {k : Nat} {f : Addr} {fd : FuncData} {ps : List Str} {sp sp' : Sp} (F : FnG P w K mg base CX k f fd ps sp) (h : ∀ vs H Q E, sp' vs H Q E → sp vs H Q E) : FnG P w K mg base CX k f fd ps sp' :=
  ⟨fun vs H Q E q => F.arity vs H Q E (h _ _ _ _ q), fun A outer s H args us vs Q E g r e b v q => F.go A outer s H args us vs Q E g r e b v (h _ _ _ _ q)⟩
theorem FnG.ofOk {k : Nat} {f : Addr} {fd : FuncData} {ps : List Str} {sp : Sp} (F : FnOk P w K mg base CX k f fd ps sp) : FnG P w K mg base CX k f fd ps sp :=
  ⟨F.len, fun A outer s H args us vs Q E _ => F.run A outer s H args us vs Q E⟩

/-- a def of the text without defaults -/
abbrev DefAt (K : PySem.W.Frag) (x : Str) (st : Stmt) (f : Addr) (fd : FuncData) : Prop := FunD K x x (defArgs st) (defBody st) (defScope st) [] [] f fd

/-- the rule of a def's body, where no repr is under way -/
theorem bodyG {x qual : Str} {params : Arguments} {body : List Stmt} {scope : Scope} {dvs : List V} {kws : List (Str × V)} {f : Addr} {fd : FuncData} {N ps : List Str} {k : Nat} {sp : Sp}
    (F : FunD K x qual params body scope dvs kws f fd) (S : FnScope N ps scope) (ar : ∀ vs H Q E, sp vs H Q E → vs.length = ps.length)
    (hb : ∀ (cdv : Value) (A : Around) (outer : List Env) (s : Shared) (H : Hp) (vs : List V) (Q : VK) (E : XK), Gd (A.deeper (envOfC qual scope s.heap.objs.size f cdv)) → Room k (A.deeper (envOfC qual scope s.heap.objs.size f cdv)) → sp vs H Q E →
      ∃ t, PSs (cxOf CX P w K mg base N qual scope f cdv A outer s H E) body t ∧ t { nx := fun _ H' => Q .non H', rt := Q } (start N vs) H) : FnG P w K mg base CX (k + 1) f fd ps sp := by
  refine ⟨ar, ?_⟩
  intro A outer s H args us vs Q E gd room env bind rel want
  obtain ⟨oc, od, dV, kV, doc, pm, an, cdv, ct, osl, rfl, look, codeIs, -, -⟩ := F.ex
  have inK : K.In s.heap := env.mod.kin.keeps fun b o q => (env.bs b o q).1
  have noLim : s.heap.NoLimit := env.mod.nolimit.keeps fun b o q => (env.bs b o q).1
  have kinds : ∀ y ∈ ps.zip us, scope.names.lookup y.1 = some .local ∨ (scope.names.lookup y.1 = some .cell ∧ ((cellsFrom (s.heap.objs.size + 1) scope.names []).lookup y.1).isSome = true) := by
    rintro ⟨n, v⟩ hy
    cases S.par n (List.of_mem_zip hy).1 with
    | inl q => exact Or.inl q
    | inr q => exact Or.inr ⟨q, PySem.W.cellsFrom_some _ _ _ (Or.inl q)⟩
  refine codeAny_call_function room.depth (inK _ _ look) rfl S.co S.gen rfl (PySem.W.codeRec_of inK codeIs) (bind _ _ _ _ ?_)
  refine wpAny_newFunctionEnv_cells S.kind kinds ?_
  rintro env' rfl s1 x1
  refine ⟨noLim.keeps x1.toInCall.keep, codeAny_func ?_⟩
  obtain ⟨t, run, done⟩ := hb cdv A outer s H vs Q E gd (room.deeper _) want
  have I := inv_start (CX := CX) (E := E) S room.hd env (ar _ _ _ _ want) rel x1
  refine wpAny_mono (run.run [] s1 (start N vs) H _ I done) ?_ (fun _ _ q => q)
  intro fl s' after
  cases fl with
  | ret u =>
    obtain ⟨v, σ', H', J, rv, q⟩ := after
    exact ⟨v, H', J.os, J.bare, J.base, J.hok, rv, q⟩
  | next =>
    obtain ⟨σ', H', J, q⟩ := after
    exact ⟨V.non, H', J.os, J.bare, J.base, J.hok, rfl, q⟩
  | brk => exact (after.choose_spec.choose_spec.2 : False).elim
  | cont => exact (after.choose_spec.choose_spec.2 : False).elim
/-- the same for a def that lets nothing out -/
theorem bodyG0 {x : Str} {st : Stmt} {f : Addr} {fd : FuncData} {N ps : List Str} {k : Nat} {sp : Sp}
    (F : DefAt K x st f fd) (S : FnScope N ps (defScope st)) (ar : ∀ vs H Q E, sp vs H Q E → vs.length = ps.length)
    (hb : ∀ (cdv : Value) (A : Around) (outer : List Env) (s : Shared) (H : Hp) (vs : List V) (Q : VK) (E : XK), Gd (A.deeper (envOfC x (defScope st) s.heap.objs.size f cdv)) → Room k (A.deeper (envOfC x (defScope st) s.heap.objs.size f cdv)) → sp vs H Q E →
      ∃ t, PSs (cxOf CX0 P w K mg base N x (defScope st) f cdv A outer s H E).nox (defBody st) t ∧ t { nx := fun _ H' => Q .non H', rt := Q } (start N vs) H) : FnG P w K mg base CX0 (k + 1) f fd ps sp :=
  bodyG F S ar fun cdv A outer s H vs Q E gd room want => by
    obtain ⟨t, a, b⟩ := hb cdv A outer s H vs Q E gd room want
    exact ⟨t, a.nox, b⟩
end

section
variable {X : Cx} {CX : CXT} {k : Nat} {f : Addr} {fd : FuncData} {ps ks : List Str} {sp : Sp} {dvs : List V} {ds : List Value} {E : XK} {x : Str} {p pos : Pos} {e : Expr} {es : List Expr} {kws : List Keyword} {t tk : TA}
theorem runG {pins : List (Addr × Obj)} {σ : L2.St} {H : Hp} {s : Shared} {Q : VK} {us0 : List Value} {kw : List (Str × Value)} {us : List Value} {vs : List V} (F : FnG X.prog X.w X.K X.mg X.base CX k f fd ps sp) (gd : Gd X.A) (hr : Room k X.A) (hx : Passes CX X E)
    (I : Inv X pins σ H s) (hb : BindsTo s fd ⟨us0, kw⟩ (ps.zip us)) (r : Vals vs us) (h : sp vs H Q E) : wpAny (model X.prog X.w) X.A (call (.ref f) us0 kw) (EP X pins σ Q) X.xe s := by
  refine wpAny_call (codeAny_mono (F.go X.A X.stack s H ⟨us0, kw⟩ us vs Q E gd hr I.env0 hb r h) ?_)
  intro r s' q
  match r, q with
  | .error e, q => exact hx pins σ H s e s' I q
  | .ok (.ret u), q => exact I.after q
  | .ok .next, q => exact (show False from q).elim
  | .ok .brk, q => exact (show False from q).elim
  | .ok .cont, q => exact (show False from q).elim
/-- f(e, ..) -/
theorem pe_g (F : FnG X.prog X.w X.K X.mg X.base CX k f fd ps sp) (gd : Gd X.A) (hr : Room k X.A) (hg : Gl X x) (hm : X.mg x = some (.ref f)) (hk : PySem.W.keepIn X.K (.ref f) = true) (hb : Binds X.K fd ps ds) (hd : Vals dvs ds) (hx : Passes CX X E)
    (ha : PA X (e :: es) t) (hdb : (x == ("__debug__" : Str)) = false := by decide) (he : starEach (e :: es) X.env = (false, eval e X.env) :: starEach es X.env := by rfl) (hpl : (backTo pos (starEach es X.env)).any (·.1) = false := by rfl) :
    PE X (.Call (.Name x p) (e :: es) [] pos) (tCall sp dvs E t) := by
  constructor
  intro pins s σ H Q I h
  apply wpAny_Call_Name_kw
  refine ld_glob I hg hm (PySem.W.callWith_K (h₀ := X.base) I.ok.mod.kin hk (thn (ha.run pos pins s σ H _ I h) ?_) he hpl) hdb
  rintro us s1 ⟨vs, H1, I1, r, q⟩
  have r2 : Vals (vs ++ dvs) (us ++ ds) := r.append hd
  exact ⟨I1.kIn, runG F gd hr hx I1 (hb s1 us I1.kIn (r2.length.symm.trans (F.arity _ _ _ _ q))) r2 q⟩
/-- f() -/
theorem pe_g0 (F : FnG X.prog X.w X.K X.mg X.base CX k f fd ps sp) (gd : Gd X.A) (hr : Room k X.A) (hg : Gl X x) (hm : X.mg x = some (.ref f)) (hk : PySem.W.keepIn X.K (.ref f) = true) (hb : Binds X.K fd ps ds) (hd : Vals dvs ds) (hx : Passes CX X E)
    (hdb : (x == ("__debug__" : Str)) = false := by decide) : PE X (.Call (.Name x p) [] [] pos) (tCall sp dvs E tNil) := by
  constructor
  intro pins s σ H Q I h
  apply wpAny_Call_Name_kw
  refine ld_glob I hg hm (PySem.W.callWith_K0 I.kIn hk ?_) hdb
  have r2 : Vals ([] ++ dvs) ([] ++ ds) := Vals.append .nil hd
  exact runG (us0 := []) F gd hr hx I (hb s [] I.kIn (r2.length.symm.trans (F.arity _ _ _ _ h))) r2 h
/-- how a call by keywords alone binds: the keywords ks, brought into the parameters' order by g (by gV the values) -/
structure KwB (fd : FuncData) (ps ks : List Str) (g : List Value → List Value) (gV : List V → List V) : Prop where
  to : ∀ (s : Shared) (ws : List Value), ws.length = ks.length → BindsTo s fd ⟨[], ks.zip ws⟩ (ps.zip (g ws))
  rel : ∀ {zs : List V} {ws : List Value}, zs.length = ks.length → Vals zs ws → Vals (gV zs) (g ws)
def tCallW (sp : Sp) (n : Nat) (gV : List V → List V) (E : XK) (tk : TA) : TE := fun σ H Q => tk σ H fun zs H1 => zs.length = n ∧ sp (gV zs) H1 Q E
/-- f(k = v, ..) -/
theorem pe_gk {g : List Value → List Value} {gV : List V → List V} (F : FnG X.prog X.w X.K X.mg X.base CX k f fd ps sp) (gd : Gd X.A) (hr : Room k X.A) (hg : Gl X x) (hm : X.mg x = some (.ref f)) (hk : PySem.W.keepIn X.K (.ref f) = true) (hb : KwB fd ps ks g gV) (hx : Passes CX X E)
    (hkw : PK X kws tk) (hall : (backToKw pos (keywordEach kws X.env)).all (·.1.isSome) = true := by rfl) (hks : (backToKw pos (keywordEach kws X.env)).filterMap (·.1) = ks := by rfl) (hdb : (x == ("__debug__" : Str)) = false := by decide)
    (hpl : ((backTo pos (starEach [] X.env)).any (·.1) || (backToKw pos (keywordEach kws X.env)).any (·.1.isNone)) = false := by rfl) :
    PE X (.Call (.Name x p) [] kws pos) (tCallW sp ks.length gV E tk) := by
  constructor
  intro pins s σ H Q I h
  apply wpAny_Call_Name_kw
  refine ld_glob I hg hm (PySem.W.callWith_KW0 (h₀ := X.base) I.ok.mod.kin hk hall (thn (hkw.run pos pins s σ H _ I h) ?_) hpl) hdb
  rintro ws s1 ⟨zs, H1, I1, rz, l, q⟩
  rw [hks]
  exact ⟨I1.kIn, runG (us0 := []) F gd hr hx I1 (hb.to s1 ws (rz.length.symm.trans l)) (hb.rel l rz) q⟩
end

/-! ### operators -/
def CPowW (i j : Int) : Prop := 0 ≤ j ∧ (Builtin.Int.intBits i : Int) * j ≤ 2 ^ 27
theorem powW_ok {i : Int} {n j : Nat} (h : i.natAbs < 2 ^ n) (hj : n * j ≤ 134217728) : CPowW i (j : Int) := by
  have b := PyProof.Rows.intBits_le h
  refine ⟨Int.natCast_nonneg _, ?_⟩
  have e : (2 : Int) ^ 27 = 134217728 := by decide
  rw [e, ← Int.natCast_mul]
  have c : Builtin.Int.intBits i * j ≤ n * j := Nat.mul_le_mul_right j b
  omega
section
variable {X : Cx}
theorem op_powW : OpR X (binaryOp .Pow) (rI CPowW fun i j => .int (i ^ j.toNat)) := opI fun _ _ _ _ _ _ _ hc q => pow_int hc.1 hc.2 q
end
/-! ### data that may be shown and compared -/
mutual
/-- data without dicts, of numbers of at most 38 figures and plain texts -/
def okD : PyData → Bool
  | .none | .bool _ => true
  | .int i => decide (i.natAbs < 10 ^ 38)
  | .str x => PyData.strOk x && x.cps.toList.all fun c => decide (c < 16 ^ 8)
  | .list xs | .tuple xs => okDs xs
  | .dict _ => false
def okDs : List PyData → Bool
  | [] => true
  | x :: xs => okD x && okDs xs
end
theorem int38 {i : Int} (h : i.natAbs < 10 ^ 38) : i.natAbs.log2 < 1920 :=
  Nat.lt_of_lt_of_le (PySem.Flt.log2_lt_of (k := 127) (by decide) (Nat.lt_of_lt_of_le h (by decide +kernel))) (by decide)
theorem short38 {i : Int} (h : i.natAbs < 10 ^ 38) : (PyData.shown (.int i)).length ≤ 40 := by
  have e := int_text_length_le10 (k := 38) (by decide) h
  show (Str.ofString (toString i)).length ≤ 40
  rw [PySem.ofString_length]
  omega
mutual
theorem okD_all : ∀ d : PyData, okD d = true → d.canLay0 = true ∧ d.showable = true ∧ d.hasDict = false ∧ d.leavesShort 40 = true
  | .none, _ => ⟨by simp only [PyData.canLay0], by simp only [PyData.showable], by simp only [PyData.hasDict], by simp only [PyData.leavesShort]⟩
  | .bool _, _ => ⟨by simp only [PyData.canLay0], by simp only [PyData.showable], by simp only [PyData.hasDict], by simp only [PyData.leavesShort]⟩
  | .int i, h => by
    have h' : i.natAbs < 10 ^ 38 := by simpa only [okD, decide_eq_true_eq] using h
    exact ⟨by simp only [PyData.canLay0], by simp only [PyData.showable, decide_eq_true_eq]; exact int38 h', by simp only [PyData.hasDict], by simp only [PyData.leavesShort, decide_eq_true_eq]; exact short38 h'⟩
  | .str x, h => by
    have h' : PyData.strOk x = true ∧ (x.cps.toList.all fun c => decide (c < 16 ^ 8)) = true := by simpa only [okD, Bool.and_eq_true] using h
    exact ⟨by simp only [PyData.canLay0]; exact h'.1, by simp only [PyData.showable], by simp only [PyData.hasDict], by simp only [PyData.leavesShort]; exact h'.2⟩
  | .list xs, h => by
    obtain ⟨a, b, c, d⟩ := okDs_all xs (by simpa only [okD] using h)
    exact ⟨by simp only [PyData.canLay0]; exact a, by simp only [PyData.showable]; exact b, by simp only [PyData.hasDict]; exact c, by simp only [PyData.leavesShort]; exact d⟩
  | .tuple xs, h => by
    obtain ⟨a, b, c, d⟩ := okDs_all xs (by simpa only [okD] using h)
    exact ⟨by simp only [PyData.canLay0]; exact a, by simp only [PyData.showable]; exact b, by simp only [PyData.hasDict]; exact c, by simp only [PyData.leavesShort]; exact d⟩
  | .dict _, h => by simp only [okD] at h; cases h
theorem okDs_all : ∀ ds : List PyData, okDs ds = true → PyData.canLayAll0 ds = true ∧ PyData.showableAll ds = true ∧ PyData.hasDictAll ds = false ∧ PyData.leavesShortAll 40 ds = true
  | [], _ => ⟨by simp only [PyData.canLayAll0], by simp only [PyData.showableAll], by simp only [PyData.hasDictAll], by simp only [PyData.leavesShortAll]⟩
  | x :: xs, h => by
    have h' : okD x = true ∧ okDs xs = true := by simpa only [okDs, Bool.and_eq_true] using h
    obtain ⟨a, b, c, d⟩ := okD_all x h'.1
    obtain ⟨a2, b2, c2, d2⟩ := okDs_all xs h'.2
    exact ⟨by simp only [PyData.canLayAll0, a, a2, Bool.and_self], by simp only [PyData.showableAll, b, b2, Bool.and_self], by simp only [PyData.hasDictAll, c, c2, Bool.or_self], by simp only [PyData.leavesShortAll, d, d2, Bool.and_self]⟩
end
structure Nice (d : PyData) : Prop where
  ok : okD d = true
  deep : d.depth ≤ 60
  small : d.bulk ≤ 262144
theorem Nice.shaped {d : PyData} (n : Nice d) : SeqAt.shaped d = true := by
  show (d.canLay0 && decide (d.depth ≤ 64)) = true
  rw [(okD_all d n.ok).1, decide_eq_true (show d.depth ≤ 64 by have := n.deep; omega)]
  rfl
theorem Nice.fits {d : PyData} (n : Nice d) : d.shown.length ≤ sizeLine := by
  have h := PyData.shown_le_bulk 40 (by decide) d (okD_all d n.ok).2.2.2
  have k := n.small
  rw [sizeLine_eq]
  omega
theorem Nice.refl {d : PyData} (n : Nice d) : PyData.eqv d d = true := SeqAt.eqv_refl d (okD_all d n.ok).1
theorem Nice.int {i : Int} (h : i.natAbs < 10 ^ 38) : Nice (.int i) := ⟨by simp only [okD, decide_eq_true_eq]; exact h, by simp only [PyData.depth]; omega, by simp only [PyData.bulk]; omega⟩
theorem okDs_map {α : Type} (f : α → PyData) : ∀ l : List α, (∀ x ∈ l, okD (f x) = true) → okDs (l.map f) = true
  | [], _ => by simp only [List.map_nil, okDs]
  | x :: r, h => by
    simp only [List.map_cons, okDs, Bool.and_eq_true]
    exact ⟨h x (List.mem_cons_self ..), okDs_map f r fun y hy => h y (List.mem_cons_of_mem _ hy)⟩
theorem depthAll_le {n : Nat} : ∀ l : List PyData, (∀ x ∈ l, x.depth ≤ n) → PyData.depthAll l ≤ n
  | [], _ => by simp only [PyData.depthAll]; omega
  | x :: r, h => by
    have h1 := h x (List.mem_cons_self ..)
    have h2 := depthAll_le r fun y hy => h y (List.mem_cons_of_mem _ hy)
    simp only [PyData.depthAll]
    omega
theorem bulkAll_le {n : Nat} : ∀ l : List PyData, (∀ x ∈ l, x.bulk ≤ n) → PyData.bulkAll l ≤ l.length * (n + 1)
  | [], _ => by simp only [PyData.bulkAll]; omega
  | x :: r, h => by
    have h1 := h x (List.mem_cons_self ..)
    have h2 := bulkAll_le r fun y hy => h y (List.mem_cons_of_mem _ hy)
    simp only [PyData.bulkAll, List.length_cons]
    rw [Nat.succ_mul]
    omega
theorem Nice.listInt {l : List Int} (h : ∀ x ∈ l, x.natAbs < 10 ^ 38) (hl : l.length ≤ 100000) : Nice (.list (l.map .int)) := by
  refine ⟨?_, ?_, ?_⟩
  · simp only [okD]
    exact okDs_map _ l fun x hx => (Nice.int (h x hx)).ok
  · have := depthAll_le (n := 0) (l.map PyData.int) fun x hx => by
      obtain ⟨i, _, rfl⟩ := List.mem_map.mp hx
      simp only [PyData.depth]; omega
    simp only [PyData.depth]; omega
  · have := bulkAll_le (n := 0) (l.map PyData.int) fun x hx => by
      obtain ⟨i, _, rfl⟩ := List.mem_map.mp hx
      simp only [PyData.bulk]; omega
    simp only [PyData.bulk]
    rw [List.length_map] at this
    omega
theorem dps_int {K : PySem.W.Frag} {H : Hp} : ∀ l : List Int, DpAll K H (l.map V.int) (l.map PyData.int)
  | [] => .nil
  | x :: r => .cons (.int x) (dps_int r)
theorem dp_int {K : PySem.W.Frag} {H : Hp} {a : Addr} {l : List Int} (h : SqL K H a (l.map V.int)) : Dp K H (.ref a) (.list (l.map PyData.int)) := .lst h (dps_int l)
section
variable {X : Cx}
/-- repr of data: its text -/
def rRepr (K : PySem.W.Frag) : List V → Hp → VK → Prop := fun xs H Q => ∃ (x : V) (d : PyData), xs = [x] ∧ Dp K H x d ∧ Nice d ∧ Q (.str d.shown) H
theorem call_reprD (gd : Gd X.A) (hu : X.A.units + 64 < cLine) : CallR X (.builtin "repr") (rRepr X.K) := by
  intro pins s σ H xs us Q I r h
  obtain ⟨x, d, rfl, dp, nice, q⟩ := h
  obtain ⟨_, sh, nd, _⟩ := okD_all d nice.ok
  have sz := nice.fits
  have dep := nice.deep
  obtain ⟨u, rfl, ru⟩ := vals1 r
  obtain ⟨as, rd⟩ := Dp.reads I d x u dp ru
  have hsm : d.hasDict = true → sysModules ∉ as := fun e => by rw [nd] at e; cases e
  cases dp with
  | non => cases (show u = Value.none from ru); exact PySem.P.repr_of_none ⟨.str _, H, I.tok _, ⟨_, rfl⟩, q⟩
  | bl b => cases (show u = Value.bool b from ru); exact PySem.P.repr_of_bool ⟨.str _, H, I.tok _, ⟨_, rfl⟩, by simpa only [PyData.shown] using q⟩
  | int i => obtain ⟨t, rfl⟩ := ru; exact PySem.P.repr_of_int (by simpa only [PyData.showable, decide_eq_true_eq] using sh) ⟨.str _, H, I.tok _, ⟨_, rfl⟩, by simpa only [PyData.shown] using q⟩
  | str z => obtain ⟨t, rfl⟩ := ru; exact PySem.P.repr_of_str ⟨.str _, H, I.tok _, ⟨_, rfl⟩, by simpa only [PyData.shown] using q⟩ (by simpa only [PyData.shown] using sz)
  | @lst a xs ds e1 e2 =>
    cases (show u = Value.ref a from ru)
    exact repr_of_reads' rd sh hsm gd (by omega) (fun _ _ e => e) (fun h' u tk hk => ⟨.str _, H, I.kept hk, ⟨_, rfl⟩, q⟩) sz
  | @tup a xs ds e1 e2 =>
    cases (show u = Value.ref a from ru)
    exact repr_of_reads' rd sh hsm gd (by omega) (fun _ _ e => e) (fun h' u tk hk => ⟨.str _, H, I.kept hk, ⟨_, rfl⟩, q⟩) sz
end
/-! ### heaps -/
/-- all but what stands at a is as it was -/
def SameX (a : Addr) (H H' : Hp) : Prop := ∀ b o, b ≠ a → H b = some o → H' b = some o
theorem SameX.refl (a : Addr) (H : Hp) : SameX a H H := fun _ _ _ h => h
theorem SameX.of {a : Addr} {H H' : Hp} (e : Same H H') : SameX a H H' := fun b o _ h => e b o h
theorem SameX.trans {a : Addr} {H H1 H2 : Hp} (e : SameX a H H1) (f : SameX a H1 H2) : SameX a H H2 := fun b o n h => f b o n (e b o n h)
theorem SameX.upd {a : Addr} {H : Hp} {o : HO} : SameX a H (upd H a o) := fun b x n h => by rw [upd_ne n]; exact h
/-- what was there before a was made -/
theorem SameX.same {a : Addr} {H0 H H' : Hp} (e : SameX a H H') (s : Same H0 H) (n : H0 a = none) : Same H0 H' := fun b o h => e b o (ne_of_none h n) (s b o h)
theorem same_new' {H : Hp} {p : Addr} {o : HO} (h : H p = none) : Same H (upd H p o) := fun b x e => by
  rw [upd_ne (ne_of_none e h)]
  exact e
/-! ### tests -/
/-- a comprehension without a test keeps each item -/
theorem yes_if {σ : L2.St} {H : Hp} {A B : Hp → Prop} (h : A H) : tYes σ H fun b H3 => if b = true then A H3 else B H3 := by
  show if true = true then A H else B H
  exact iteT h

/-! ### the law's own call -/
section
variable {P : Program} {w : World} {K : PySem.W.Frag} {mg mb : Str → Option Value} {CX : CXT} {k : Nat} {fa a : Addr} {fd : FuncData} {x : Str} {sp : Sp} {st : Shared} {its : List Value} {ns : List Int}
/-- the call over an abstract heap that tracks nothing but (perhaps) the script -/
theorem lawG_at {H : Hp} (inK : K.In st.heap) (globals : st.heap.Ns mainGlobals mg) (blt : st.heap.Ns builtinsNs mb) (bltIs : ∀ x : Str, x ≠ "__name__" → mb x = bootBuiltins x) (noLim : st.heap.NoLimit) (noGen : st.gens = #[])
    (lst : st.heap.get? a = some { cls := .type "list", data := .seq its.toArray }) (room : Room k callerA)
    (F : ∀ base : Heap, K.In base → base.Ns mainGlobals mg → FnG P w K mg base CX k fa fd [x] sp) (binds : ∀ (s : Shared) (u : Value), BindsTo s fd ⟨[u], []⟩ [(x, u)])
    (want : sp [.ref a] H (fun v _ => v = .bl true) fun _ _ _ => False) (noEx : ∀ e s', CX [] H st (fun _ _ _ => False) e s' → False)
    (only : Only H) (held : HOk P w H st.heap) (atA : ∀ b, H b ≠ none → b = a) (notK : H a ≠ none → K.lookup a = none) :
    codeAny (model P w) callerA (.call (.ref fa) ⟨[.ref a], []⟩) (fun r s' => r = .ok (.ret (.bool true)) ∧ OldK st.heap s'.heap ∧ s'.os = st.os ∧ AllBare s'.gens) st := by
  have dicts : ∀ {b : Addr} {m : Str → Option Value}, st.heap.Ns b m → (hidT st.heap H).Ns b m := by
    rintro b m ⟨o, es, ep, q, d, rest⟩
    refine ⟨o, es, ep, hidT_get q ?_, d, rest⟩
    cases z : H b with
    | none => rfl
    | some u =>
      have eb := atA b (by rw [z]; exact Option.some_ne_none u)
      rw [eb, lst] at q
      have eo := Option.some.inj q
      rw [← eo] at d
      exact (nomatch (show Data.seq its.toArray _ = Data.dict es ep from d))
  have baseK : K.In (hidT st.heap H) := by
    intro b o q
    refine hidT_get (inK b o q) ?_
    cases z : H b with
    | none => rfl
    | some u =>
      have ne : H b ≠ none := by rw [z]; exact Option.some_ne_none u
      have eb := atA b ne
      subst eb
      rw [notK ne] at q
      exact nomatch q
  obtain ⟨mc, l1, l2⟩ := noLim
  have env : Env0 P w K mg (hidT st.heap H) callerA [] st H :=
    { frames := rfl, mod := { kin := baseK, glob := dicts globals, blt := ⟨mb, dicts blt, bltIs⟩, nolimit := ⟨mc, dicts l1, l2⟩ }, bs := fun b o q => of_hidT q,
      bsz := Nat.le_of_eq (hidT_size _ _), funs := trivial, frf := fun b z => (nomatch z), hok := held, bare := .of_eq noGen }
  refine codeAny_mono ((F _ baseK (dicts globals)).go callerA [] st H ⟨[.ref a], []⟩ [.ref a] [.ref a] _ _ rfl room env (binds st (.ref a)) (.cons rfl .nil) want) ?_
  intro r s' q
  match r, q with
  | .error e, q => exact (noEx e s' q).elim
  | .ok .next, q => exact (show False from q).elim
  | .ok .brk, q => exact (show False from q).elim
  | .ok .cont, q => exact (show False from q).elim
  | .ok (.ret u), ⟨v, H', eos, bare, un, held', rv, ev⟩ =>
    have ev' : v = .bl true := ev
    subst ev'
    cases (show u = Value.bool true from rv)
    refine ⟨rfl, OldK.of_keep ?_, eos, bare⟩
    intro b o q
    cases z : H b with
    | none => exact un.keep b o q z (fun y => nomatch y) (fun y => nomatch y)
    | some u =>
      obtain y | ⟨ob, xs, y⟩ := only b
      · rw [z] at y
        exact nomatch y
      · have q1 := (held b _ y).1
        have q2 := (held' b _ (un.frzs b ob _ y)).1
        rw [q] at q1
        rw [Option.some.inj q1]
        exact q2
theorem lawG (inK : K.In st.heap) (globals : st.heap.Ns mainGlobals mg) (blt : st.heap.Ns builtinsNs mb) (bltIs : ∀ x : Str, x ≠ "__name__" → mb x = bootBuiltins x) (noLim : st.heap.NoLimit) (noGen : st.gens = #[])
    (lst : st.heap.get? a = some { cls := .type "list", data := .seq its.toArray }) (areInts : IntsAre its ns) (len : ns.length ≤ sizeLine) (room : Room k callerA)
    (F : ∀ base : Heap, K.In base → base.Ns mainGlobals mg → FnG P w K mg base CX k fa fd [x] sp) (binds : ∀ (s : Shared) (u : Value), BindsTo s fd ⟨[u], []⟩ [(x, u)])
    (want : ∀ H : Hp, Only H → SqL K H a (ns.map V.int) → sp [.ref a] H (fun v _ => v = .bl true) fun _ _ _ => False) (noEx : ∀ H e s', CX [] H st (fun _ _ _ => False) e s' → False) :
    codeAny (model P w) callerA (.call (.ref fa) ⟨[.ref a], []⟩) (fun r s' => r = .ok (.ret (.bool true)) ∧ OldK st.heap s'.heap ∧ s'.os = st.os ∧ AllBare s'.gens) st := by
  have rel := vals_ints areInts
  cases z : K.lookup a with
  | some o =>
    have q := inK a o z
    rw [lst] at q
    have eo := Option.some.inj q
    subst eo
    have only : Only (fun _ => none) := fun _ => Or.inl rfl
    have sq : SqL K (fun _ => none) a (ns.map V.int) := Or.inr ⟨_, its.toArray, _, z, rfl, rfl, rfl, by rw [List.size_toArray, areInts.length]; exact len, rel⟩
    exact lawG_at inK globals blt bltIs noLim noGen lst room F binds (want _ only sq) (noEx _) only (fun b u y => nomatch (show none = some u from y)) (fun b y => (y rfl).elim) (fun y => (y rfl).elim)
  | none =>
    let H : Hp := upd (fun _ => none) a (.frz { cls := .type "list", data := .seq its.toArray } (.lst (ns.map V.int)))
    have at1 : H a = some (.frz { cls := .type "list", data := .seq its.toArray } (.lst (ns.map V.int))) := upd_same
    have off : ∀ b, b ≠ a → H b = none := fun b hb => upd_ne hb
    have only : Only H := by
      intro b
      by_cases hb : b = a
      · rw [hb]
        exact Or.inr ⟨_, _, at1⟩
      · exact Or.inl (off b hb)
    have only1 : ∀ b, H b ≠ none → b = a := by
      intro b y
      by_cases hb : b = a
      · exact hb
      · exact (y (off b hb)).elim
    have held : HOk P w H st.heap := by
      intro b u y
      have hb : b = a := only1 b (by rw [y]; exact Option.some_ne_none u)
      subst hb
      rw [at1] at y
      rw [← Option.some.inj y]
      exact ⟨lst, by rw [List.length_map]; exact len, its, _, rel, lst⟩
    exact lawG_at inK globals blt bltIs noLim noGen lst room F binds (want _ only (Or.inl (Or.inr ⟨_, at1⟩))) (noEx _) only held only1 fun _ => z
end
/-- a law: what the head leaves, from the law's promise -/
theorem walkG {l : PySem.W.OpenLaw} {n k : Nat} {q : Program} {loose : List Str} {XP : (Str → Option Value) → Heap → Prop} {YP : World → Heap → Prop} {d : DefRec} {x : Str}
    (most : l.most = some n) (small : n ≤ sizeLine) (plain : d.params.defaults = []) (room : Room k callerA)
    (F : ∀ (w : World) (mg : Str → Option Value) (fa : Addr) (h : Heap), YP w h → h.Ns mainGlobals mg → mg d.name = some (.ref fa) →
      ∃ (K : PySem.W.Frag) (fd : FuncData) (sp : Sp), K.In h ∧ (∀ (s : Shared) (u : Value), BindsTo s fd ⟨[u], []⟩ [(x, u)]) ∧
        (∀ (H : Hp) (a : Addr) (ns : List Int), ns.length ≤ n → Only H → SqL K H a (ns.map V.int) → sp [.ref a] H (fun v _ => v = .bl true) fun _ _ _ => False) ∧
        ∀ base : Heap, K.In base → base.Ns mainGlobals mg → FnG l.prog w K mg base CX0 k fa fd [x] sp) :
    PySem.W.WalkO q loose XP YP l.row.toRowW d [] (fun f vs => PySem.call f vs) := by
  apply Att.attach_call most plain
  intro w s0 s1 mg mb fa o pm cd doc a vs ns G Y _ _ _ gl lst areInts len gens
  obtain ⟨K, fd, sp, inK, binds, want, run⟩ := F w mg fa _ Y G.T.g gl
  exact lawG inK G.T.g G.T.b G.T.builtins G.T.nolimit gens lst areInts (Nat.le_trans len small) room run binds (fun H o s => want H a ns len o s) fun _ _ _ y => y.elim
end Hw

set_option Elab.async false
set_option linter.all false
set_option maxRecDepth 100000
set_option maxHeartbeats 4000000
/-! data that stands in tracked lists, tuples, dicts -/
namespace Hw
open PySem PySem.Spec PyProof.Rows L2
mutual
inductive Dt (H : Hp) : V → PyData → Prop
  | non : Dt H .non .none
  | bl (b : Bool) : Dt H (.bl b) (.bool b)
  | int (i : Int) : Dt H (.int i) (.int i)
  | str (x : Str) : Dt H (.str x) (.str x)
  | lst {a : Addr} {xs : List V} {ds : List PyData} : H a = some (.lst xs) → DtAll H xs ds → Dt H (.ref a) (.list ds)
  | tup {a : Addr} {xs : List V} {ds : List PyData} : H a = some (.tup xs) → DtAll H xs ds → Dt H (.ref a) (.tuple ds)
  | dic {a : Addr} (kvs : List (Str × Int)) : H a = some (.dK (kvs.map fun p => (.inr p.1, .int p.2))) → Dt H (.ref a) (.dict (kvs.map fun p => (.str p.1, .int p.2)))
inductive DtAll (H : Hp) : List V → List PyData → Prop
  | nil : DtAll H [] []
  | cons {v : V} {vs : List V} {d : PyData} {ds : List PyData} : Dt H v d → DtAll H vs ds → DtAll H (v :: vs) (d :: ds)
end
mutual
theorem Dt.same {H H' : Hp} (e : Same H H') : ∀ (d : PyData) (v : V), Dt H v d → Dt H' v d
  | .none, _, h => by cases h; exact .non
  | .bool b, _, h => by cases h; exact .bl b
  | .int i, _, h => by cases h; exact .int i
  | .str x, _, h => by cases h; exact .str x
  | .list ds, _, h => by
    cases h with
    | lst hs ha => exact .lst (e _ _ hs) (DtAll.same e ds _ ha)
  | .tuple ds, _, h => by
    cases h with
    | tup hs ha => exact .tup (e _ _ hs) (DtAll.same e ds _ ha)
  | .dict ds, _, h => by
    cases h with
    | dic kvs hs => exact .dic kvs (e _ _ hs)
theorem DtAll.same {H H' : Hp} (e : Same H H') : ∀ (ds : List PyData) (vs : List V), DtAll H vs ds → DtAll H' vs ds
  | [], _, h => by cases h; exact .nil
  | d :: ds, _, h => by
    cases h with
    | cons h1 h2 => exact .cons (Dt.same e d _ h1) (DtAll.same e ds _ h2)
end
theorem Dt.to {H H' : Hp} {v : V} {d : PyData} (h : Dt H v d) (e : Same H H') : Dt H' v d := Dt.same e d v h
theorem DtAll.to {H H' : Hp} {v : List V} {d : List PyData} (h : DtAll H v d) (e : Same H H') : DtAll H' v d := DtAll.same e d v h
/-- a write at a place that held nothing of the data -/
theorem Dt.toX {a : Addr} {H H' : Hp} (e : SameX a H H') (H0 : Hp) (s : Same H0 H) (n : H0 a = none) {v : V} {d : PyData} (h : Dt H0 v d) : Dt H' v d := h.to (e.same s n)
theorem DtAll.len {H : Hp} : ∀ {vs : List V} {ds : List PyData}, DtAll H vs ds → vs.length = ds.length
  | _, _, .nil => rfl
  | _, _, .cons _ r => by rw [List.length_cons, List.length_cons, r.len]
theorem DtAll.get {H : Hp} : ∀ {vs : List V} {ds : List PyData}, DtAll H vs ds → ∀ (i : Nat) (v : V), vs[i]? = some v → ∃ d, ds[i]? = some d ∧ Dt H v d
  | _, _, .nil, i, v, h => by simp at h
  | _, _, .cons h1 r, 0, v, h => by
    have e := Option.some.inj (show some _ = some v from h)
    subst e
    exact ⟨_, rfl, h1⟩
  | _, _, .cons _ r, i + 1, v, h => r.get i v h
theorem DtAll.app {H : Hp} : ∀ {vs : List V} {ds : List PyData} {ws : List V} {es : List PyData}, DtAll H vs ds → DtAll H ws es → DtAll H (vs ++ ws) (ds ++ es)
  | _, _, _, _, .nil, k => k
  | _, _, _, _, .cons h r, k => .cons h (r.app k)
theorem DtAll.one {H : Hp} {v : V} {d : PyData} (h : Dt H v d) : DtAll H [v] [d] := .cons h .nil
theorem DtAll.ints {H : Hp} : ∀ l : List Int, DtAll H (l.map V.int) (l.map PyData.int)
  | [] => .nil
  | x :: r => .cons (.int x) (DtAll.ints r)
theorem DtAll.bls {H : Hp} : ∀ l : List Bool, DtAll H (l.map V.bl) (l.map PyData.bool)
  | [] => .nil
  | x :: r => .cons (.bl x) (DtAll.bls r)
theorem Dt.ints {H : Hp} {a : Addr} {l : List Int} (h : H a = some (.lst (l.map V.int))) : Dt H (.ref a) (.list (l.map PyData.int)) := .lst h (DtAll.ints l)
theorem readsKV {h : Heap} {P : Program} {w : World} : ∀ (kvs : List (Str × Int)) (vs : List (Key × Value)) (es : List DictEntry), KV (kvs.map fun p => ((.inr p.1 : Key), V.int p.2)) vs → PySem.Pairs (mixKind P w) es vs →
    ReadsAll h (es.map (·.key)) ((kvs.map fun p => (PyData.str p.1, PyData.int p.2)).map (·.1)) [] ∧ ReadsAll h (es.map (·.val)) ((kvs.map fun p => (PyData.str p.1, PyData.int p.2)).map (·.2)) []
  | [], _, _, .nil, .nil => ⟨.nil, .nil⟩
  | p :: r, _, _, .cons h1 t1, .cons f1 f2 t2 => by
    obtain ⟨a, b⟩ := readsKV (h := h) r _ _ t1 t2
    obtain ⟨e1, e2⟩ := h1
    skip
    skip
    obtain ⟨t, ht⟩ := e2
    constructor
    · refine ReadsAll.cons (as := []) (bs := []) ?_ a
      rw [← e1] at f1
      have f1 : keyIs (.inr p.1) _ = true := f1
      rcases keyIs_shape f1 with ⟨i, t, z, q⟩ | ⟨x, t, z, q⟩
      · cases z
      · dsimp only
        rw [q]
        cases z
        exact .str _ _
    · refine ReadsAll.cons (as := []) (bs := []) ?_ b
      dsimp only
      rw [f2, ht]
      exact .int _ _
section
variable {X : Cx} {pins : List (Addr × Obj)} {σ : L2.St} {H : Hp} {s : Shared}
mutual
theorem Dt.reads (I : Inv X pins σ H s) : ∀ (d : PyData) (v : V) (u : Value), Dt H v d → RelV v u → ∃ as, Reads s.heap u d as ∧ ((∃ kvs, d = .dict kvs) → sysModules ∉ as)
  | .none, _, _, h, r => by
    cases h
    cases r
    exact ⟨_, Reads.none, fun ⟨_, z⟩ => nomatch z⟩
  | .bool b, _, _, h, r => by
    cases h
    cases r
    exact ⟨_, Reads.bool b, fun ⟨_, z⟩ => nomatch z⟩
  | .int i, _, _, h, r => by
    cases h
    obtain ⟨t, rfl⟩ := r
    exact ⟨_, Reads.int i t, fun ⟨_, z⟩ => nomatch z⟩
  | .str x, _, _, h, r => by
    cases h
    obtain ⟨t, rfl⟩ := r
    exact ⟨_, Reads.str x t, fun ⟨_, z⟩ => nomatch z⟩
  | .list ds, _, _, h, r => by
    cases h with
    | lst hs ha =>
      cases r
      obtain ⟨its, rv, ⟨o, n, ho, hc, _, hd⟩, _⟩ := I.list (X := X) (show SqL X.K H _ _ from .inl (.inl hs))
      obtain ⟨as, hr⟩ := Dt.readsAll I ds _ its ha rv
      exact ⟨_, Reads.list ho hc hd hr, fun ⟨_, z⟩ => nomatch z⟩
  | .tuple ds, _, _, h, r => by
    cases h with
    | tup hs ha =>
      cases r
      obtain ⟨its, rv, ⟨o, ho, hc, n, hd⟩, _⟩ := I.tuple (X := X) (show SqT X.K H _ _ from .inl (.inl hs))
      obtain ⟨as, hr⟩ := Dt.readsAll I ds _ its ha rv
      exact ⟨_, Reads.tuple ho hc hd hr, fun ⟨_, z⟩ => nomatch z⟩
  | .dict ds, _, _, h, r => by
    cases h with
    | dic kvs hs =>
      cases r
      obtain ⟨_, ns, vs, kv, o, es, ep, ho, hx, hd, _, pr, _⟩ := dk_of I.hok hs
      obtain ⟨a, b⟩ := readsKV (h := s.heap) kvs vs es.toList kv pr
      refine ⟨_, Reads.dict ho hx.1 hd a b, fun _ z => ?_⟩
      simp only [List.append_nil, List.mem_singleton] at z
      rw [← z] at ns
      simp at ns
theorem Dt.readsAll (I : Inv X pins σ H s) : ∀ (ds : List PyData) (vs : List V) (us : List Value), DtAll H vs ds → Vals vs us → ∃ as, ReadsAll s.heap us ds as
  | [], _, _, h, r => by
    cases h
    cases r
    exact ⟨_, ReadsAll.nil⟩
  | d :: ds, _, _, h, r => by
    cases h with
    | cons h1 h2 =>
      cases r with
      | cons r1 r2 =>
        obtain ⟨as, q1, _⟩ := Dt.reads I d _ _ h1 r1
        obtain ⟨bs, q2⟩ := Dt.readsAll I ds _ _ h2 r2
        exact ⟨_, ReadsAll.cons q1 q2⟩
end
end
section
variable {X : Cx}
def rEqT : R2 := fun x y H Q => ∃ d e, Dt H x d ∧ Dt H y e ∧ SeqAt.shaped d = true ∧ SeqAt.shaped e = true ∧ Q (.bl (PyData.eqv d e)) H
def rNeT : R2 := fun x y H Q => ∃ d e, Dt H x d ∧ Dt H y e ∧ SeqAt.shaped d = true ∧ SeqAt.shaped e = true ∧ Q (.bl (!PyData.eqv d e)) H
theorem op_eqT (hu : X.A.units + 64 < cLine) : OpR X (compareOp .Eq) rEqT := by
  intro pins s σ H x y v u Q I rx ry h
  obtain ⟨d, e, hd, he, sd, se, q⟩ := h
  obtain ⟨as, r1, _⟩ := Dt.reads I d x v hd rx
  obtain ⟨bs, r2, _⟩ := Dt.reads I e y u he ry
  exact SeqAt.compareEq_shaped r1 r2 sd se hu ⟨.bl _, H, I, rfl, q⟩
theorem op_neT (hu : X.A.units + 64 < cLine) : OpR X (compareOp .NotEq) rNeT := by
  intro pins s σ H x y v u Q I rx ry h
  obtain ⟨d, e, hd, he, sd, se, q⟩ := h
  obtain ⟨as, r1, _⟩ := Dt.reads I d x v hd rx
  obtain ⟨bs, r2, _⟩ := Dt.reads I e y u he ry
  exact SeqAt.compareNe_shaped r1 r2 sd se hu ⟨.bl _, H, I, rfl, q⟩
/-- data whose repr can be told -/
structure Shows (d : PyData) : Prop where
  show_ : d.showable = true
  fits : d.shown.length ≤ sizeLine
  deep : d.depth ≤ 60
  top : d.hasDict = true → ∃ kvs, d = .dict kvs
theorem Nice.shows {d : PyData} (n : Nice d) : Shows d := ⟨(okD_all d n.ok).2.1, n.fits, n.deep, fun z => by rw [(okD_all d n.ok).2.2.1] at z; cases z⟩
theorem shows_empty : Shows (.dict []) := ⟨by decide +kernel, by rw [sizeLine_eq]; decide +kernel, by decide +kernel, fun _ => ⟨_, rfl⟩⟩
/-- repr of data: its text -/
def rReprT : List V → Hp → VK → Prop := fun xs H Q => ∃ (x : V) (d : PyData), xs = [x] ∧ Dt H x d ∧ Shows d ∧ Q (.str d.shown) H
theorem call_reprT (gd : Gd X.A) (hu : X.A.units + 64 < cLine) : CallR X (.builtin "repr") rReprT := by
  intro pins s σ H xs us Q I r h
  obtain ⟨x, d, rfl, dp, nice, q⟩ := h
  have sh := nice.show_
  have sz := nice.fits
  have dep := nice.deep
  obtain ⟨u, rfl, ru⟩ := vals1 r
  obtain ⟨as, rd, nm⟩ := Dt.reads I d x u dp ru
  have hsm : d.hasDict = true → sysModules ∉ as := fun e => nm (nice.top e)
  cases dp with
  | non => cases (show u = Value.none from ru); exact PySem.P.repr_of_none ⟨.str _, H, I.tok _, ⟨_, rfl⟩, q⟩
  | bl b => cases (show u = Value.bool b from ru); exact PySem.P.repr_of_bool ⟨.str _, H, I.tok _, ⟨_, rfl⟩, by simpa only [PyData.shown] using q⟩
  | int i => obtain ⟨t, rfl⟩ := ru; exact PySem.P.repr_of_int (by simpa only [PyData.showable, decide_eq_true_eq] using sh) ⟨.str _, H, I.tok _, ⟨_, rfl⟩, by simpa only [PyData.shown] using q⟩
  | str z => obtain ⟨t, rfl⟩ := ru; exact PySem.P.repr_of_str ⟨.str _, H, I.tok _, ⟨_, rfl⟩, by simpa only [PyData.shown] using q⟩ (by simpa only [PyData.shown] using sz)
  | @lst a xs ds e1 e2 =>
    cases (show u = Value.ref a from ru)
    exact repr_of_reads' rd sh hsm gd (by omega) (fun _ _ e => e) (fun h' u tk hk => ⟨.str _, H, I.kept hk, ⟨_, rfl⟩, q⟩) sz
  | @tup a xs ds e1 e2 =>
    cases (show u = Value.ref a from ru)
    exact repr_of_reads' rd sh hsm gd (by omega) (fun _ _ e => e) (fun h' u tk hk => ⟨.str _, H, I.kept hk, ⟨_, rfl⟩, q⟩) sz
  | @dic a kvs e1 =>
    cases (show u = Value.ref a from ru)
    exact repr_of_reads' rd sh hsm gd (by omega) (fun _ _ e => e) (fun h' u tk hk => ⟨.str _, H, I.kept hk, ⟨_, rfl⟩, q⟩) sz
end
/-! ### what kind data is of -/
def tyN : PyData → String
  | .none => "NoneType"
  | .bool _ => "bool"
  | .int _ => "int"
  | .str _ => "str"
  | .list _ => "list"
  | .tuple _ => "tuple"
  | .dict _ => "dict"
def isInt : PyData → Bool | .int _ => true | .bool _ => true | _ => false
def isBool : PyData → Bool | .bool _ => true | _ => false
def isList : PyData → Bool | .list _ => true | _ => false
def isTuple : PyData → Bool | .tuple _ => true | _ => false
def isStr : PyData → Bool | .str _ => true | _ => false
theorem kit_int (d : PyData) : kitB (tyN d) "int" = some (isInt d) := by cases d <;> kernel_rfl
theorem kit_bool (d : PyData) : kitB (tyN d) "bool" = some (isBool d) := by cases d <;> kernel_rfl
theorem kit_list (d : PyData) : kitB (tyN d) "list" = some (isList d) := by cases d <;> kernel_rfl
theorem kit_tuple (d : PyData) : kitB (tyN d) "tuple" = some (isTuple d) := by cases d <;> kernel_rfl
theorem kit_str (d : PyData) : kitB (tyN d) "str" = some (isStr d) := by cases d <;> kernel_rfl
theorem Dt.ty {K : PySem.W.Frag} {H : Hp} {v : V} {d : PyData} (h : Dt H v d) : TyX K H v (.type (tyN d)) := by
  cases h with
  | non => exact .base .non
  | bl b => exact .base (.bl b)
  | int i => exact .base (.int i)
  | str x => exact .base (.str x)
  | lst e _ => exact .base (.lst e)
  | tup e _ => exact .base (.tup e)
  | dic kvs e => exact .base (.dK e)
section
variable {X : Cx}
/-- isinstance(x, T) of data -/
def rIsD : List V → Hp → VK → Prop := fun xs H Q => ∃ (x : V) (d : PyData) (T : String) (b : Bool), xs = [x, .ty T] ∧ Dt H x d ∧ kitB (tyN d) T = some b ∧ Q (.bl b) H
theorem call_isD : CallR X (.builtin "isinstance") rIsD := by
  intro pins s σ H xs us Q I r h
  obtain ⟨x, d, T, b, rfl, hd, hk, q⟩ := h
  exact call_isi pins s σ H _ us Q I r ⟨x, .ty T, _, _, b, rfl, .ty T, hd.ty, kit_ty hk, q⟩
end
/-! ### sizes -/
structure Bnd (k b : Nat) (d : PyData) : Prop where
  ok : okD d = true
  deep : d.depth ≤ k
  small : d.bulk ≤ b
theorem Bnd.nice {k b : Nat} {d : PyData} (h : Bnd k b d) (hk : k ≤ 60) (hb : b ≤ 262144) : Nice d := ⟨h.ok, Nat.le_trans h.deep hk, Nat.le_trans h.small hb⟩
theorem Bnd.up {k b k' b' : Nat} {d : PyData} (h : Bnd k b d) (hk : k ≤ k') (hb : b ≤ b') : Bnd k' b' d := ⟨h.ok, Nat.le_trans h.deep hk, Nat.le_trans h.small hb⟩
theorem Bnd.non {k b : Nat} : Bnd k b .none := ⟨by simp only [okD], by simp only [PyData.depth]; omega, by simp only [PyData.bulk]; omega⟩
theorem Bnd.bl {k b : Nat} (x : Bool) : Bnd k b (.bool x) := ⟨by simp only [okD], by simp only [PyData.depth]; omega, by simp only [PyData.bulk]; omega⟩
theorem Bnd.int {k b : Nat} {i : Int} (h : i.natAbs < 10 ^ 38) : Bnd k b (.int i) := ⟨by simp only [okD, decide_eq_true_eq]; exact h, by simp only [PyData.depth]; omega, by simp only [PyData.bulk]; omega⟩
theorem okDs_of : ∀ l : List PyData, (∀ x ∈ l, okD x = true) → okDs l = true
  | [], _ => by simp only [okDs]
  | x :: r, h => by
    simp only [okDs, Bool.and_eq_true]
    exact ⟨h x (List.mem_cons_self ..), okDs_of r fun y hy => h y (List.mem_cons_of_mem _ hy)⟩
theorem okDs_mem : ∀ l : List PyData, okDs l = true → ∀ x ∈ l, okD x = true
  | [], _, x, hx => by cases hx
  | y :: r, h, x, hx => by
    have h' : okD y = true ∧ okDs r = true := by simpa only [okDs, Bool.and_eq_true] using h
    rcases List.mem_cons.mp hx with e | e
    · rw [e]; exact h'.1
    · exact okDs_mem r h'.2 x e
theorem depthAll_mem : ∀ l : List PyData, ∀ x ∈ l, x.depth ≤ PyData.depthAll l
  | [], x, hx => by cases hx
  | y :: r, x, hx => by
    simp only [PyData.depthAll]
    rcases List.mem_cons.mp hx with e | e
    · rw [e]; omega
    · have := depthAll_mem r x e
      omega
theorem bulkAll_mem : ∀ l : List PyData, ∀ x ∈ l, x.bulk ≤ PyData.bulkAll l
  | [], x, hx => by cases hx
  | y :: r, x, hx => by
    simp only [PyData.bulkAll]
    rcases List.mem_cons.mp hx with e | e
    · rw [e]; omega
    · have := bulkAll_mem r x e
      omega
theorem Bnd.list {k b n c : Nat} {ds : List PyData} (h : ∀ x ∈ ds, Bnd k b x) (hl : ds.length ≤ n) (hc : n * (b + 1) ≤ c) : Bnd (k + 1) c (.list ds) := by
  refine ⟨?_, ?_, ?_⟩
  · simp only [okD]
    exact okDs_of ds fun x hx => (h x hx).ok
  · have := depthAll_le (n := k) ds fun x hx => (h x hx).deep
    simp only [PyData.depth]; omega
  · have := bulkAll_le (n := b) ds fun x hx => (h x hx).small
    have := Nat.mul_le_mul_right (b + 1) hl
    simp only [PyData.bulk]; omega
theorem Bnd.tuple {k b n c : Nat} {ds : List PyData} (h : ∀ x ∈ ds, Bnd k b x) (hl : ds.length ≤ n) (hc : n * (b + 1) ≤ c) : Bnd (k + 1) c (.tuple ds) := by
  refine ⟨?_, ?_, ?_⟩
  · simp only [okD]
    exact okDs_of ds fun x hx => (h x hx).ok
  · have := depthAll_le (n := k) ds fun x hx => (h x hx).deep
    simp only [PyData.depth]; omega
  · have := bulkAll_le (n := b) ds fun x hx => (h x hx).small
    have := Nat.mul_le_mul_right (b + 1) hl
    simp only [PyData.bulk]; omega
theorem Nice.listMem {ds : List PyData} (h : Nice (.list ds)) : ∀ x ∈ ds, Nice x := fun x hx => by
  obtain ⟨a, b, c⟩ := h
  have a' : okDs ds = true := by simpa only [okD] using a
  have e1 := depthAll_mem ds x hx
  have e2 := bulkAll_mem ds x hx
  simp only [PyData.depth] at b
  simp only [PyData.bulk] at c
  exact ⟨okDs_mem ds a' x hx, by omega, by omega⟩
theorem Nice.tupMem {ds : List PyData} (h : Nice (.tuple ds)) : ∀ x ∈ ds, Nice x := fun x hx => by
  obtain ⟨a, b, c⟩ := h
  have a' : okDs ds = true := by simpa only [okD] using a
  have e1 := depthAll_mem ds x hx
  have e2 := bulkAll_mem ds x hx
  simp only [PyData.depth] at b
  simp only [PyData.bulk] at c
  exact ⟨okDs_mem ds a' x hx, by omega, by omega⟩
end Hw
namespace Hw
open PySem PySem.Spec PyProof.Rows L2
/-- a turn of a comprehension: the list so far is f 0, .., f (i - 1) -/
theorem lcS {H1 H' : Hp} {D : Addr} {f : Nat → V} {i : Nat} (hD : H1 D = none) (s : Same H1 H') (e : H' D = some (.lst ((List.range i).map f))) (hz : i ≤ 1000000) :
    ∃ acc, H' D = some (.lst acc) ∧ acc.length < sizeLine ∧ Same H1 (upd H' D (.lst (acc ++ [f i]))) ∧ (upd H' D (.lst (acc ++ [f i]))) D = some (.lst ((List.range (i + 1)).map f)) := by
  refine ⟨_, e, ?_, fun b o hb => ?_, ?_⟩
  · rw [List.length_map, List.length_range, sizeLine_eq]; omega
  · rw [upd_ne (ne_of_none hb hD)]
    exact s b o hb
  · rw [upd_same, List.range_succ, List.map_append]
    rfl
theorem range_get {α : Type} (l : List α) (f : α → V) (g : Nat → V) (h : ∀ i x, l[i]? = some x → g i = f x) : (List.range l.length).map g = l.map f := by
  apply List.ext_getElem?
  intro i
  rw [List.getElem?_map, List.getElem?_map]
  by_cases hi : i < l.length
  · rw [List.getElem?_range hi, List.getElem?_eq_getElem hi]
    exact congrArg some (h i _ (List.getElem?_eq_getElem hi))
  · rw [List.getElem?_eq_none (by rw [List.length_range]; omega), List.getElem?_eq_none (by omega)]
    rfl
/-- the same, told of the list's members -/
theorem range_mem {α : Type} {xs : List V} {l : List α} (f : α → V) (g : Nat → V) (hl : xs.length = l.length) (h : ∀ i x, l[i]? = some x → g i = f x) : (List.range xs.length).map g = l.map f := by
  rw [hl]
  exact range_get l f g h
end Hw
namespace Hw
open PySem PySem.Spec PyProof.Rows L2
/-- the answer about the member at i -/
def atF {α : Type} (l : List α) (g : α → Bool) (i : Nat) : Bool := match l[i]? with
  | some y => g y
  | none => false
theorem atF_at {α : Type} {l : List α} {g : α → Bool} {i : Nat} {y : α} (h : l[i]? = some y) : atF l g i = g y := by
  unfold atF
  rw [h]
theorem all_atF {α : Type} (l : List α) (g : α → Bool) : ((List.range l.length).map (atF l g)).all id = l.all g := by
  rw [Bool.eq_iff_iff, List.all_eq_true, List.all_eq_true]
  constructor
  · intro h y hy
    obtain ⟨i, hi, e⟩ := List.getElem_of_mem hy
    have h2 := h (atF l g i) (List.mem_map.mpr ⟨i, List.mem_range.mpr hi, rfl⟩)
    rw [atF_at (List.getElem?_eq_getElem hi), e] at h2
    exact h2
  · intro h b hb
    obtain ⟨i, hi, rfl⟩ := List.mem_map.mp hb
    have hi := List.mem_range.mp hi
    rw [atF_at (List.getElem?_eq_getElem hi)]
    exact h _ (List.getElem_mem hi)
theorem vi {a b : Int} : decide (V.int a = V.int b) = decide (a = b) := by
  by_cases h : a = b
  · rw [h, decide_eq_true rfl, decide_eq_true rfl]
  · rw [decide_eq_false h, decide_eq_false fun z => h (by cases z; rfl)]
theorem vs_eq {a b : Str} : decide (V.str a = V.str b) = decide (a = b) := by
  by_cases h : a = b
  · rw [h, decide_eq_true rfl, decide_eq_true rfl]
  · rw [decide_eq_false h, decide_eq_false fun z => h (by cases z; rfl)]
theorem shaped_list {fs : List PyData} (h : ∀ x ∈ fs, Nice x) : SeqAt.shaped (.list fs) = true := by
  have h1 : PyData.canLayAll0 fs = true := (okDs_all fs (okDs_of fs fun x hx => (h x hx).ok)).1
  have h2 := depthAll_le (n := 60) fs fun x hx => (h x hx).deep
  have h3 : PyData.canLay0 (.list fs) = true := by simp only [PyData.canLay0]; exact h1
  have h4 : PyData.depth (.list fs) ≤ 64 := by simp only [PyData.depth]; omega
  show (PyData.canLay0 (.list fs) && decide (PyData.depth (.list fs) ≤ 64)) = true
  rw [h3, decide_eq_true h4]
  rfl
theorem eqv_nil (fs : List PyData) : PyData.eqv (.list fs) (.list []) = fs.isEmpty := by cases fs <;> simp [PyData.eqv, PyData.eqvAll]
theorem shaped_nil : SeqAt.shaped (.list []) = true := shaped_list fun x hx => nomatch hx
end Hw

/-! ### the rules with the written part named -/
namespace Hw
open PySem PySem.Spec PyProof.Rows L2
section
variable {X : Cx} {K : PySem.W.Frag}
def rLenK (K : PySem.W.Frag) : List V → Hp → VK → Prop := fun xs H Q => ∃ p ys, xs = [.ref p] ∧ (SqL K H p ys ∨ SqT K H p ys) ∧ Q (.int ys.length) H
theorem call_lenK (h : X.K = K) : CallR X (.builtin "len") (rLenK K) := by subst h; exact call_len_seq
theorem cr_allK (h : X.K = K) (hc : X.calm = true) : CallR X (.builtin "all") (rAll K) := by subst h; exact cr_all hc
theorem cr_sumK (h : X.K = K) (hc : X.calm = true) : CallR X (.builtin "sum") (rSum K) := by subst h; exact cr_sum hc
def rListK (K : PySem.W.Frag) : List V → Hp → VK → Prop := fun xs H Q => ∃ p ys, xs = [.ref p] ∧ (SqL K H p ys ∨ SqT K H p ys) ∧ ∀ l, H l = none → Q (.ref l) (upd H l (.lst ys))
theorem call_listK (h : X.K = K) : CallR X (.type "list") (rListK K) := by subst h; exact call_list_of
def rTupK (K : PySem.W.Frag) : List V → Hp → VK → Prop := fun xs H Q => ∃ p ys, xs = [.ref p] ∧ ((SqL K H p ys ∧ ∀ l, H l = none → Q (.ref l) (upd H l (.tup ys))) ∨ (SqT K H p ys ∧ Q (.ref p) H))
theorem call_tupK (h : X.K = K) : CallR X (.type "tuple") (rTupK K) := by subst h; exact call_tuple_of
theorem ix_listK (h : X.K = K) : IxR X (rIxL K) := by subst h; exact ix_list
theorem ix_tupK (h : X.K = K) : IxR X (rIxT K) := by subst h; exact ix_tup
theorem sl_listK (h : X.K = K) : SlR X (rSlL K) := by subst h; exact sl_list
theorem sl_tupK (h : X.K = K) : SlR X (rSlA K) := by subst h; exact sl_tupA
end
end Hw
namespace Hw
open PySem PySem.Spec PyProof.Rows L2
/-! ### the heap but for one place -/
def off (a : Addr) (H : Hp) : Hp := fun b => if b = a then none else H b
theorem off_ne {a b : Addr} {H : Hp} (h : b ≠ a) : off a H b = H b := if_neg h
theorem off_at {a b : Addr} {H : Hp} {o : HO} (h : off a H b = some o) : b ≠ a ∧ H b = some o := by
  unfold off at h
  by_cases e : b = a
  · rw [if_pos e] at h; cases h
  · rw [if_neg e] at h; exact ⟨e, h⟩
theorem off_same {a : Addr} {H : Hp} : Same (off a H) H := fun _ _ h => (off_at h).2
theorem SameX.off {a : Addr} {H H' : Hp} (e : SameX a H H') : Same (off a H) (off a H') := fun b o h => by
  obtain ⟨n, h⟩ := off_at h
  rw [off_ne n]
  exact e b o n h
theorem off_of {a b : Addr} {H : Hp} {o : HO} (n : b ≠ a) (h : H b = some o) : off a H b = some o := by rw [off_ne n]; exact h
theorem Dt.on {a : Addr} {H : Hp} {v : V} {d : PyData} (h : Dt (off a H) v d) : Dt H v d := h.to off_same
/-! ### lists of numbers -/
abbrev natV (l : List Nat) : List V := l.map fun (x : Nat) => V.int (x : Int)
abbrev natD (l : List Nat) : List PyData := l.map fun (x : Nat) => PyData.int (x : Int)
theorem DtAll.nats {H : Hp} : ∀ l : List Nat, DtAll H (natV l) (natD l)
  | [] => .nil
  | x :: r => .cons (.int x) (DtAll.nats r)
theorem DtAll.nats_inv {H : Hp} : ∀ (l : List Nat) (vs : List V), DtAll H vs (natD l) → vs = natV l
  | [], _, h => by cases h; rfl
  | x :: r, _, h => by
    cases h with
    | cons h1 h2 =>
      cases h1
      rw [DtAll.nats_inv r _ h2]
      rfl
theorem DtAll.bls_inv {H : Hp} : ∀ (l : List Bool) (vs : List V), DtAll H vs (l.map PyData.bool) → vs = l.map V.bl
  | [], _, h => by cases h; rfl
  | x :: r, _, h => by
    cases h with
    | cons h1 h2 =>
      cases h1
      rw [DtAll.bls_inv r _ h2]
      rfl
theorem Dt.nats {H : Hp} {a : Addr} {l : List Nat} (h : H a = some (.lst (natV l))) : Dt H (.ref a) (.list (natD l)) := .lst h (DtAll.nats l)
theorem nat_get {l : List Nat} {i : Nat} {x : V} (h : (natV l)[i]? = some x) : ∃ b : Nat, l[i]? = some b ∧ V.int (b : Int) = x := by
  rw [List.getElem?_map] at h
  exact Option.map_eq_some_iff.mp h
theorem nat_at {l : List Nat} {i b : Nat} (h : l[i]? = some b) : (natV l)[i]? = some (V.int (b : Int)) := by
  rw [List.getElem?_map, h]
  rfl
theorem Bnd.nats {l : List Nat} {n c : Nat} (h : ∀ x ∈ l, x < 10 ^ 38) (hl : l.length ≤ n) (hc : n ≤ c) : Bnd 1 c (.list (natD l)) := by
  refine Bnd.list (k := 0) (b := 0) (n := n) (fun d hd => ?_) (by rw [List.length_map]; exact hl) (by omega)
  obtain ⟨x, hx, rfl⟩ := List.mem_map.mp hd
  exact .int (by have := h x hx; omega)
/-! ### bits in columns -/
def bitN (x p : Nat) : Nat := x / 2 ^ p % 2
def worthN : List Nat → Nat
  | [] => 0
  | b :: r => b + 2 * worthN r
theorem worthN_add : ∀ (l : List Nat) (b : Nat), worthN (l ++ [b]) = worthN l + b * 2 ^ l.length
  | [], b => by show b + 2 * 0 = 0 + b * 1; omega
  | c :: r, b => by
    show c + 2 * worthN (r ++ [b]) = c + 2 * worthN r + b * 2 ^ (r.length + 1)
    rw [worthN_add r b, Nat.pow_succ, Nat.mul_add, ← Nat.mul_assoc b, Nat.mul_comm _ 2]
    omega
theorem worthN_lt : ∀ l : List Nat, (∀ b ∈ l, b < 2) → worthN l < 2 ^ l.length
  | [], _ => by show 0 < 1; omega
  | c :: r, h => by
    have h1 := h c (List.mem_cons_self ..)
    have h2 := worthN_lt r fun b hb => h b (List.mem_cons_of_mem _ hb)
    show c + 2 * worthN r < 2 ^ (r.length + 1)
    rw [Nat.pow_succ]
    omega
theorem bitN_lt (x p : Nat) : bitN x p < 2 := Nat.mod_lt _ (by decide)
theorem bitN_worth : ∀ (l : List Nat) (i : Nat), (∀ b ∈ l, b < 2) → bitN (worthN l) i = l.getD i 0
  | [], i, _ => by
    show 0 / 2 ^ i % 2 = ([] : List Nat).getD i 0
    rw [Nat.zero_div]
    rfl
  | c :: r, 0, h => by
    have h1 := h c (List.mem_cons_self ..)
    show (c + 2 * worthN r) / 2 ^ 0 % 2 = c
    rw [Nat.pow_zero, Nat.div_one]
    omega
  | c :: r, i + 1, h => by
    have h1 := h c (List.mem_cons_self ..)
    have ih := bitN_worth r i fun b hb => h b (List.mem_cons_of_mem _ hb)
    show (c + 2 * worthN r) / 2 ^ (i + 1) % 2 = r.getD i 0
    rw [Nat.pow_succ, Nat.mul_comm (2 ^ i) 2, ← Nat.div_div_eq_div_mul, show (c + 2 * worthN r) / 2 = worthN r by omega]
    exact ih
theorem worthN_bits (x : Nat) : ∀ n : Nat, worthN ((List.range n).map (bitN x)) = x % 2 ^ n
  | 0 => by rw [Nat.pow_zero, Nat.mod_one]; rfl
  | n + 1 => by
    rw [List.range_succ, List.map_append, List.map_cons, List.map_nil, worthN_add, worthN_bits x n, List.length_map, List.length_range, Nat.mod_pow_succ, Nat.mul_comm]; rfl
/-- the p-th bits of all -/
def col (l : List Nat) (p : Nat) : Nat := worthN (l.map fun x => bitN x p)
def tr (n : Nat) (l : List Nat) : List Nat := (List.range n).map (col l)
theorem col_bits (l : List Nat) (p : Nat) : ∀ b ∈ l.map fun x => bitN x p, b < 2 := fun b hb => by
  obtain ⟨x, _, rfl⟩ := List.mem_map.mp hb
  exact bitN_lt x p
theorem col_lt (l : List Nat) (p : Nat) : col l p < 2 ^ l.length := by
  have := worthN_lt _ (col_bits l p)
  rw [List.length_map] at this
  exact this
theorem tr_len (n : Nat) (l : List Nat) : (tr n l).length = n := by unfold tr; rw [List.length_map, List.length_range]
theorem tr_lt {n : Nat} {l : List Nat} : ∀ x ∈ tr n l, x < 2 ^ l.length := fun x hx => by
  obtain ⟨p, _, rfl⟩ := List.mem_map.mp hx
  exact col_lt l p
theorem tr_tr {n : Nat} {l : List Nat} (h : ∀ x ∈ l, x < 2 ^ n) : tr l.length (tr n l) = l := by
  apply List.ext_getElem?
  intro i
  unfold tr
  rw [List.getElem?_map]
  by_cases hi : i < l.length
  · rw [List.getElem?_range hi, List.getElem?_eq_getElem hi]
    show some (col ((List.range n).map (col l)) i) = some l[i]
    unfold col
    rw [List.map_map]
    have e : (List.range n).map ((fun x => bitN x i) ∘ fun p => worthN (l.map fun x => bitN x p)) = (List.range n).map (bitN l[i]) := by
      apply List.map_congr_left
      intro p _
      show bitN (worthN (l.map fun x => bitN x p)) i = bitN l[i] p
      rw [bitN_worth _ _ (col_bits l p), List.getD_eq_getElem?_getD, List.getElem?_map, List.getElem?_eq_getElem hi]
      rfl
    rw [e, worthN_bits, Nat.mod_eq_of_lt (h _ (List.getElem_mem hi))]
  · rw [List.getElem?_eq_none (by rw [List.length_range]; omega), List.getElem?_eq_none (by omega)]
    rfl
theorem col_take {l : List Nat} {i x : Nat} (p : Nat) (h : l[i]? = some x) : col (l.take (i + 1)) p = col (l.take i) p + bitN x p * 2 ^ i := by
  unfold col
  have hi : i < l.length := (List.getElem?_eq_some_iff.mp h).1
  rw [List.take_add_one, h, List.map_append]
  show worthN (_ ++ [bitN x p]) = _
  rw [worthN_add, List.length_map, List.length_take, Nat.min_eq_left (by omega)]
/-! ### tables -/
structure Tb where
  many : Nat
  steps : List (List Nat)
  ends : List Bool
def Tb.d (t : Tb) : PyData := .tuple [.int (t.many : Int), .list (t.steps.map fun l => .list (natD l)), .list (t.ends.map .bool)]
structure Tb.Good (t : Tb) : Prop where
  many : t.many ≤ 6
  some : 0 < t.steps.length
  same : t.ends.length = t.steps.length
  line : ∀ l ∈ t.steps, l.length = 2 ^ t.many
  stand : ∀ l ∈ t.steps, ∀ x ∈ l, x < t.steps.length
def Tb.next (t : Tb) (s c : Nat) : Nat := (t.steps.getD s []).getD c 0
def Tb.behind (t : Tb) (l : List Nat) : Nat := l.foldl t.next 0
theorem Tb.Good.next {t : Tb} (g : t.Good) {s c : Nat} (hs : s < t.steps.length) (hc : c < 2 ^ t.many) : ∃ l, t.steps[s]? = Option.some l ∧ l[c]? = Option.some (t.next s c) ∧ t.next s c < t.steps.length := by
  have e := List.getElem?_eq_getElem hs
  have hl := g.line _ (List.getElem_mem hs)
  have hc' : c < (t.steps[s]).length := by omega
  have e2 := List.getElem?_eq_getElem hc'
  have en : t.next s c = t.steps[s][c] := by
    unfold Tb.next
    rw [List.getD_eq_getElem?_getD, List.getD_eq_getElem?_getD, e, Option.getD_some, e2]
    rfl
  exact ⟨_, e, by rw [en]; exact e2, by rw [en]; exact g.stand _ (List.getElem_mem hs) _ (List.getElem_mem hc')⟩
theorem Tb.Good.behind {t : Tb} (g : t.Good) : ∀ (l : List Nat) (s : Nat), s < t.steps.length → (∀ x ∈ l, x < 2 ^ t.many) → l.foldl t.next s < t.steps.length
  | [], s, hs, _ => hs
  | c :: r, s, hs, h => by
    obtain ⟨_, _, _, h3⟩ := g.next hs (h c (List.mem_cons_self ..))
    exact g.behind r _ h3 fun x hx => h x (List.mem_cons_of_mem _ hx)
theorem Tb.behind_take {t : Tb} {l : List Nat} {i c : Nat} (h : l[i]? = some c) : t.behind (l.take (i + 1)) = t.next (t.behind (l.take i)) c := by
  unfold Tb.behind
  rw [List.take_add_one, h, List.foldl_append]
  rfl
/-- where the table's parts stand -/
theorem Dt.tab {H : Hp} {x : V} {t : Tb} (h : Dt H x t.d) : ∃ (a b c : Addr) (ys : List V), x = .ref a ∧ H a = some (.tup [.int (t.many : Int), .ref b, .ref c]) ∧ H b = some (.lst ys) ∧ ys.length = t.steps.length ∧
    (∀ (i : Nat) (l : List Nat), t.steps[i]? = some l → ∃ r : Addr, ys[i]? = some (V.ref r) ∧ H r = some (.lst (natV l))) ∧ H c = some (.lst (t.ends.map V.bl)) ∧ DtAll H ys (t.steps.map fun l => .list (natD l)) := by
  unfold Tb.d at h
  cases h with
  | @tup a xs ds ha hs =>
  cases hs with
  | cons hm hs =>
  cases hs with
  | cons hst hs =>
  cases hs with
  | cons hen hs =>
  cases hs with
  | nil =>
  cases hm
  cases hst with
  | @lst b ys ss hb hss =>
  cases hen with
  | @lst c zs es hc hes =>
  have e := DtAll.bls_inv _ _ hes
  subst e
  have hl : ys.length = t.steps.length := by rw [hss.len, List.length_map]
  refine ⟨a, b, c, ys, rfl, ha, hb, hl, fun i l hi => ?_, hc, hss⟩
  have il : i < ys.length := by rw [hl]; exact (List.getElem?_eq_some_iff.mp hi).1
  obtain ⟨d, hd, hy⟩ := hss.get i _ (List.getElem?_eq_getElem il)
  rw [List.getElem?_map, hi] at hd
  cases hd
  generalize hz : ys[i] = z at hy
  cases hy with
  | @lst r qs _ hr hq =>
    have e := DtAll.nats_inv _ _ hq
    subst e
    exact ⟨r, by rw [List.getElem?_eq_getElem il, hz], hr⟩
end Hw
namespace Hw
open PySem PySem.Spec PyProof.Rows L2
/-! ### a comprehension with a test -/
def Flt (ds : List PyData) (p : PyData → Bool) (H1 : Hp) (D : Addr) (i : Nat) (H' : Hp) : Prop := Same H1 H' ∧ ∃ vs, H' D = some (.lst vs) ∧ DtAll H1 vs ((ds.take i).filter p) ∧ vs.length ≤ i
theorem Flt.start {ds : List PyData} {p : PyData → Bool} {H1 : Hp} {D : Addr} (hD : H1 D = none) : Flt ds p H1 D 0 (upd H1 D (.lst [])) := ⟨same_new' hD, [], upd_same, .nil, Nat.le_refl _⟩
theorem Flt.keep {ds : List PyData} {p : PyData → Bool} {H1 H' : Hp} {D : Addr} {i : Nat} {d : PyData} {y : V} (f : Flt ds p H1 D i H') (hD : H1 D = none) (hi : ds[i]? = some d) (hp : p d = true) (hy : Dt H1 y d) (hz : i ≤ 1000000) :
    ∃ acc, H' D = some (.lst acc) ∧ acc.length < sizeLine ∧ Flt ds p H1 D (i + 1) (upd H' D (.lst (acc ++ [y]))) := by
  obtain ⟨s, vs, e, hv, hl⟩ := f
  refine ⟨vs, e, by rw [sizeLine_eq]; omega, fun b o hb => ?_, vs ++ [y], upd_same, ?_, by rw [List.length_append]; show vs.length + 1 ≤ i + 1; omega⟩
  · rw [upd_ne (ne_of_none hb hD)]
    exact s b o hb
  · rw [List.take_add_one, hi, List.filter_append]
    refine hv.app ?_
    show DtAll H1 [y] (List.filter p [d])
    rw [List.filter_cons_of_pos hp]
    exact .cons hy .nil
theorem Flt.skip {ds : List PyData} {p : PyData → Bool} {H1 H' : Hp} {D : Addr} {i : Nat} {d : PyData} (f : Flt ds p H1 D i H') (hi : ds[i]? = some d) (hp : p d = false) : Flt ds p H1 D (i + 1) H' := by
  obtain ⟨s, vs, e, hv, hl⟩ := f
  refine ⟨s, vs, e, ?_, by omega⟩
  rw [List.take_add_one, hi, List.filter_append]
  show DtAll H1 vs (_ ++ List.filter p [d])
  rw [List.filter_cons_of_neg (by rw [hp]; exact Bool.false_ne_true), List.filter_nil, List.append_nil]
  exact hv
theorem Flt.done {ds : List PyData} {p : PyData → Bool} {H1 H' : Hp} {D : Addr} {n : Nat} (f : Flt ds p H1 D n H') (hn : n = ds.length) : Same H1 H' ∧ Dt H' (.ref D) (.list (ds.filter p)) := by
  obtain ⟨s, vs, e, hv, hl⟩ := f
  subst hn
  rw [List.take_length] at hv
  exact ⟨s, .lst e (hv.to s)⟩
theorem filter_none {α : Type} (p : α → Bool) : ∀ l : List α, (l.filter fun x => !p x).isEmpty = l.all p
  | [] => rfl
  | x :: r => by
    rw [List.all_cons, ← filter_none p r]
    cases h : p x with
    | true => rw [List.filter_cons_of_neg (by rw [h]; exact Bool.false_ne_true)]; rfl
    | false => rw [List.filter_cons_of_pos (by rw [h]; rfl)]; rfl
/-- .. != [] of such a list -/
theorem ne_nil {H' : Hp} {E : Addr} {x : V} {ds : List PyData} {p : PyData → Bool} {Q : VK} (hx : Dt H' x (.list (ds.filter p))) (hE : H' E = none) (nd : ∀ d ∈ ds, Nice d) (h : Q (.bl (!(ds.filter p).isEmpty)) (upd H' E (.lst []))) : rNeT x (.ref E) (upd H' E (.lst [])) Q := by
  refine ⟨_, .list [], hx.to (same_new' hE), .lst upd_same .nil, shaped_list fun d hd => nd d (List.mem_filter.mp hd).1, shaped_nil, ?_⟩
  rw [eqv_nil]
  exact h
end Hw

set_option Elab.async false
set_option linter.all false
set_option maxRecDepth 100000
set_option maxHeartbeats 4000000
/-! stands reached: the rows in the order of their lengths and letters, numbered; first ones -/
namespace Hw
open PySem PySem.Spec PyProof.Rows L2
/-! rows by number: 0 is the empty one, 1 + p * m + c the p-th with the letter c behind -/
def rowN (m : Nat) : Nat → List Nat
  | 0 => []
  | n + 1 => if h : 0 < m then rowN m (n / m) ++ [n % m] else []
  termination_by n => n
  decreasing_by exact Nat.lt_succ_of_le (Nat.div_le_self _ _)
def standN (m : Nat) (f : Nat → Nat → Nat) : Nat → Nat
  | 0 => 0
  | n + 1 => if h : 0 < m then f (standN m f (n / m)) (n % m) else 0
  termination_by n => n
  decreasing_by exact Nat.lt_succ_of_le (Nat.div_le_self _ _)
section
variable {m : Nat} {f : Nat → Nat → Nat}
theorem div_child (hm : 0 < m) {p c : Nat} (hc : c < m) : (p * m + c) / m = p ∧ (p * m + c) % m = c := by
  rw [Nat.mul_comm, Nat.mul_add_div hm, Nat.div_eq_of_lt hc, Nat.mul_add_mod, Nat.mod_eq_of_lt hc]
  exact ⟨rfl, rfl⟩
theorem rowN_child (hm : 0 < m) {p c : Nat} (hc : c < m) : rowN m (p * m + c + 1) = rowN m p ++ [c] := by
  obtain ⟨a, b⟩ := div_child hm (p := p) hc
  rw [rowN, dif_pos hm, a, b]
theorem standN_child (hm : 0 < m) {p c : Nat} (hc : c < m) : standN m f (p * m + c + 1) = f (standN m f p) c := by
  obtain ⟨a, b⟩ := div_child hm (p := p) hc
  rw [standN, dif_pos hm, a, b]
theorem standN_row (hm : 0 < m) : ∀ n, standN m f n = (rowN m n).foldl f 0 := by
  intro n
  induction n using Nat.strongRecOn with
  | _ n ih =>
    cases n with
    | zero => rw [standN, rowN]; rfl
    | succ n =>
      rw [standN, rowN, dif_pos hm, dif_pos hm, ih (n / m) (Nat.lt_succ_of_le (Nat.div_le_self _ _)), List.foldl_append]
      rfl
/-- the first with its stand -/
def Fst (s : Nat → Nat) (i : Nat) : Prop := ∀ j, j < i → s j ≠ s i
instance (s : Nat → Nat) (i : Nat) : Decidable (Fst s i) := inferInstanceAs (Decidable (∀ j, j < i → _))
def Ent (s : Nat → Nat) (n : Nat) : List Nat := (List.range n).filter fun i => decide (Fst s i)
theorem ent_succ (s : Nat → Nat) (n : Nat) : Ent s (n + 1) = Ent s n ++ (if Fst s n then [n] else []) := by
  unfold Ent
  rw [List.range_succ, List.filter_append]
  by_cases h : Fst s n
  · rw [if_pos h, List.filter_cons_of_pos (by simpa using h)]; rfl
  · rw [if_neg h, List.filter_cons_of_neg (by simpa using h)]; rfl
theorem mem_ent {s : Nat → Nat} {n i : Nat} : i ∈ Ent s n ↔ i < n ∧ Fst s i := by
  unfold Ent
  rw [List.mem_filter, List.mem_range, decide_eq_true_eq]
/-- each has a first one -/
theorem fst_of (s : Nat → Nat) (n : Nat) : ∃ i, i ≤ n ∧ Fst s i ∧ s i = s n := by
  induction n using Nat.strongRecOn with
  | _ n ih =>
    by_cases h : Fst s n
    · exact ⟨n, Nat.le_refl _, h, rfl⟩
    · obtain ⟨j, hj⟩ := Classical.not_forall.mp h
      obtain ⟨hl, he⟩ := Classical.not_imp.mp hj
      obtain ⟨i, h1, h2, h3⟩ := ih j hl
      exact ⟨i, by omega, h2, h3.trans (Decidable.not_not.mp he)⟩
theorem seen_iff {s : Nat → Nat} {n x : Nat} : (∃ i ∈ Ent s n, s i = x) ↔ ∃ j, j < n ∧ s j = x := by
  constructor
  · rintro ⟨i, hi, rfl⟩
    exact ⟨i, (mem_ent.mp hi).1, rfl⟩
  · rintro ⟨j, hj, rfl⟩
    obtain ⟨i, h1, h2, h3⟩ := fst_of s j
    exact ⟨i, mem_ent.mpr ⟨by omega, h2⟩, h3⟩
theorem ent_nodup (s : Nat → Nat) (n : Nat) : ((Ent s n).map s).Nodup := by
  induction n with
  | zero => exact List.nodup_nil
  | succ n ih =>
    rw [ent_succ]
    by_cases h : Fst s n
    · rw [if_pos h, List.map_append, List.nodup_append]
      refine ⟨ih, by simp, fun a ha b hb => ?_⟩
      obtain ⟨i, hi, rfl⟩ := List.mem_map.mp ha
      rw [show b = s n by simpa using hb]
      exact h i (mem_ent.mp hi).1
    · rw [if_neg h, List.append_nil]; exact ih
/-- what is no first one has no first ones behind it -/
theorem child_not (hm : 0 < m) {p c : Nat} (hc : c < m) (h : ¬ Fst (standN m f) p) : ¬ Fst (standN m f) (p * m + c + 1) := fun k => by
  obtain ⟨j, hj⟩ := Classical.not_forall.mp h
  obtain ⟨hl, he⟩ := Classical.not_imp.mp hj
  refine k (j * m + c + 1) ?_ ?_
  · have := Nat.mul_le_mul_right m (show j + 1 ≤ p by omega)
    rw [Nat.succ_mul] at this
    omega
  · rw [standN_child hm hc, standN_child hm hc, Decidable.not_not.mp he]
theorem ent_skip {s : Nat → Nat} {a : Nat} : ∀ b, a ≤ b → (∀ i, a ≤ i → i < b → ¬ Fst s i) → Ent s b = Ent s a
  | 0, h, _ => by rw [show a = 0 by omega]
  | b + 1, h, k => by
    by_cases e : a = b + 1
    · rw [e]
    · rw [ent_succ, if_neg (k b (by omega) (by omega)), List.append_nil]
      exact ent_skip b (by omega) fun i h1 h2 => k i h1 (by omega)
/-- children of what are no first ones -/
theorem ent_kids (hm : 0 < m) {p q : Nat} (hpq : p ≤ q) (h : ∀ i, p ≤ i → i < q → ¬ Fst (standN m f) i) : Ent (standN m f) (q * m + 1) = Ent (standN m f) (p * m + 1) := by
  refine ent_skip _ (by have := Nat.mul_le_mul_right m hpq; omega) fun i h1 h2 => ?_
  obtain ⟨n, rfl⟩ : ∃ n, i = n + 1 := ⟨i - 1, by omega⟩
  have e := Nat.div_add_mod n m
  rw [Nat.mul_comm] at e
  rw [← e]
  have a1 : p ≤ n / m := (Nat.le_div_iff_mul_le hm).mpr (by omega)
  have a2 : n / m < q := (Nat.div_lt_iff_lt_mul hm).mpr (by omega)
  exact child_not hm (Nat.mod_lt _ hm) (h _ a1 a2)
/-- no first one from p to its children: none at all from p on -/
theorem ent_end (hm : 0 < m) {p : Nat} (h : ∀ i, p ≤ i → i < p * m + 1 → ¬ Fst (standN m f) i) : ∀ i, p ≤ i → ¬ Fst (standN m f) i := by
  intro i
  induction i using Nat.strongRecOn with
  | _ i ih =>
    intro hp
    by_cases hi : i < p * m + 1
    · exact h i hp hi
    · obtain ⟨n, rfl⟩ : ∃ n, i = n + 1 := ⟨i - 1, by omega⟩
      have e := Nat.div_add_mod n m
      rw [Nat.mul_comm] at e
      have a1 : p ≤ n / m := (Nat.le_div_iff_mul_le hm).mpr (by omega)
      have := Nat.div_le_self n m
      rw [← e]
      exact child_not hm (Nat.mod_lt _ hm) (ih (n / m) (by omega) a1)
/-- the ways to a first one are first ones -/
theorem way_fst (hm : 0 < m) {n : Nat} (h : Fst (standN m f) (n + 1)) : Fst (standN m f) (n / m) := by
  refine Classical.byContradiction fun k => ?_
  have e := Nat.div_add_mod n m
  rw [Nat.mul_comm] at e
  rw [← e] at h
  exact child_not hm (Nat.mod_lt _ hm) k h
end
end Hw
namespace Hw
open PySem PySem.Spec PyProof.Rows L2
/-! the queue -/
def kidsTo (f : Nat → Nat → Nat) (acc : List (Nat × List Nat)) (s : Nat) (r : List Nat) : Nat → List (Nat × List Nat)
  | 0 => acc
  | c + 1 => if (kidsTo f acc s r c).any (fun x => x.1 == f s c) then kidsTo f acc s r c else kidsTo f acc s r c ++ [(f s c, r ++ [c])]
def bfsL (m : Nat) (f : Nat → Nat → Nat) : Nat → Nat → List (Nat × List Nat) → List (Nat × List Nat)
  | 0, _, acc => acc
  | k + 1, i, acc => match acc[i]? with
    | none => acc
    | some x => bfsL m f k (i + 1) (kidsTo f acc x.1 x.2 m)
def entL (m : Nat) (f : Nat → Nat → Nat) (n : Nat) : List (Nat × List Nat) := (Ent (standN m f) n).map fun i => (standN m f i, rowN m i)
section
variable {m : Nat} {f : Nat → Nat → Nat}
theorem entL_succ (n : Nat) : entL m f (n + 1) = entL m f n ++ (if Fst (standN m f) n then [(standN m f n, rowN m n)] else []) := by
  unfold entL
  rw [ent_succ, List.map_append]
  split <;> rfl
theorem entL_seen (n x : Nat) : (entL m f n).any (fun y => y.1 == x) = true ↔ ∃ j, j < n ∧ standN m f j = x := by
  rw [← seen_iff]
  unfold entL
  rw [List.any_map, List.any_eq_true]
  constructor
  · rintro ⟨i, hi, e⟩
    exact ⟨i, hi, by simpa using e⟩
  · rintro ⟨i, hi, e⟩
    exact ⟨i, hi, by simpa using e⟩
theorem fst_iff {s : Nat → Nat} {n : Nat} : ¬ Fst s n ↔ ∃ j, j < n ∧ s j = s n := by
  constructor
  · intro h
    obtain ⟨j, hj⟩ := Classical.not_forall.mp h
    obtain ⟨hl, he⟩ := Classical.not_imp.mp hj
    exact ⟨j, hl, Decidable.not_not.mp he⟩
  · rintro ⟨j, hj, e⟩ h
    exact h j hj e
theorem kids_ok (hm : 0 < m) (p : Nat) : ∀ c, c ≤ m → kidsTo f (entL m f (p * m + 1)) (standN m f p) (rowN m p) c = entL m f (p * m + 1 + c)
  | 0, _ => rfl
  | c + 1, h => by
    have ih := kids_ok hm p c (by omega)
    have e1 : p * m + 1 + c = p * m + c + 1 := by omega
    have es := standN_child (f := f) hm (p := p) (c := c) (by omega)
    have er := rowN_child hm (p := p) (c := c) (by omega)
    rw [kidsTo, ih, show p * m + 1 + (c + 1) = (p * m + 1 + c) + 1 by omega, entL_succ, e1]
    by_cases hs : Fst (standN m f) (p * m + c + 1)
    · rw [if_pos hs, if_neg, es, er]
      rw [entL_seen, ← es]
      exact fun z => fst_iff.mpr z hs
    · rw [if_neg hs, if_pos, List.append_nil]
      rw [entL_seen, ← es]
      exact fst_iff.mp hs
theorem ent_next {s : Nat → Nat} {p : Nat} : ∀ n, p ≤ n → (Ent s p).length < (Ent s n).length → ∃ q, p ≤ q ∧ q < n ∧ Fst s q ∧ (∀ i, p ≤ i → i < q → ¬ Fst s i) ∧ (Ent s n)[(Ent s p).length]? = some q
  | 0, h, k => by
    rw [show p = 0 by omega] at k
    exact absurd k (Nat.lt_irrefl _)
  | n + 1, h, k => by
    by_cases e : p = n + 1
    · rw [e] at k; exact absurd k (Nat.lt_irrefl _)
    by_cases hl : (Ent s p).length < (Ent s n).length
    · obtain ⟨q, a, b, c, d, g⟩ := ent_next n (by omega) hl
      refine ⟨q, a, by omega, c, d, ?_⟩
      rw [ent_succ, List.getElem?_append_left hl]
      exact g
    · rw [ent_succ] at k ⊢
      by_cases hf : Fst s n
      · rw [if_pos hf] at k ⊢
        refine ⟨n, by omega, by omega, hf, fun i h1 h2 hi => ?_, ?_⟩
        · have : (Ent s p).length < (Ent s n).length := by
            have up : ∀ b, i + 1 ≤ b → (Ent s (i + 1)).length ≤ (Ent s b).length := by
              intro b
              induction b with
              | zero => intro z; omega
              | succ b ih =>
                intro z
                by_cases z2 : i + 1 = b + 1
                · rw [z2]; exact Nat.le_refl _
                · rw [ent_succ s b, List.length_append]
                  have := ih (by omega)
                  omega
            have up2 : ∀ b, p ≤ b → (Ent s p).length ≤ (Ent s b).length := by
              intro b
              induction b with
              | zero => intro z; rw [show p = 0 by omega]; exact Nat.le_refl _
              | succ b ih =>
                intro z
                by_cases z2 : p = b + 1
                · rw [z2]; exact Nat.le_refl _
                · rw [ent_succ s b, List.length_append]
                  have := ih (by omega)
                  omega
            have a1 := up n (by omega)
            have a2 := up2 i h1
            rw [ent_succ, if_pos hi, List.length_append] at a1
            have a1 : (Ent s i).length + 1 ≤ (Ent s n).length := a1
            omega
          exact hl this
        · have le : (Ent s n).length ≤ (Ent s p).length := by omega
          have ge : (Ent s p).length ≤ (Ent s n).length := by
            rw [List.length_append] at k
            have k : (Ent s p).length < (Ent s n).length + 1 := k
            omega
          rw [List.getElem?_append_right le, Nat.le_antisymm le ge, Nat.sub_self]
          rfl
      · rw [if_neg hf, List.append_nil] at k
        exact absurd k hl
theorem nodup_le : ∀ (n : Nat) (l : List Nat), l.Nodup → (∀ x ∈ l, x < n) → l.length ≤ n
  | 0, l, _, h => by
    cases l with
    | nil => exact Nat.le_refl _
    | cons x r => exact absurd (h x (List.mem_cons_self ..)) (by omega)
  | n + 1, l, hn, h => by
    have e := List.length_erase_le (a := n) (l := l)
    have ih := nodup_le n (l.erase n) (hn.erase n) fun x hx => by
      have h1 := h x (List.mem_of_mem_erase hx)
      have h2 : x ≠ n := fun z => by rw [z] at hx; exact absurd hx (hn.not_mem_erase)
      omega
    rw [List.length_erase] at ih
    split at ih <;> omega
/-- few stands -/
theorem ent_few {size : Nat} (hs : ∀ n, standN m f n < size) (n : Nat) : (Ent (standN m f) n).length ≤ size := by
  have := nodup_le size ((Ent (standN m f) n).map (standN m f)) (ent_nodup _ n) fun x hx => by
    obtain ⟨i, _, rfl⟩ := List.mem_map.mp hx
    exact hs i
  rwa [List.length_map] at this
theorem ent_grow {s : Nat → Nat} {a : Nat} : ∀ b, a ≤ b → (Ent s a).length ≤ (Ent s b).length
  | 0, h => by rw [show a = 0 by omega]; exact Nat.le_refl _
  | b + 1, h => by
    by_cases e : a = b + 1
    · rw [e]; exact Nat.le_refl _
    · rw [ent_succ, List.length_append]
      have := ent_grow (s := s) b (show a ≤ b by omega)
      omega
theorem bfs_ok {size : Nat} (hm : 0 < m) (hs : ∀ n, standN m f n < size) : ∀ k p, size ≤ k + (Ent (standN m f) p).length → ∃ q, bfsL m f k (Ent (standN m f) p).length (entL m f (p * m + 1)) = entL m f q ∧ ∀ i, q ≤ i → ¬ Fst (standN m f) i := by
  have pm : ∀ p, p ≤ p * m + 1 := fun p => by have := Nat.le_mul_of_pos_right p hm; omega
  intro k
  induction k with
  | zero =>
    intro p h
    refine ⟨p * m + 1, rfl, fun i hi z => ?_⟩
    have a := ent_few hs (i + 1)
    have b := ent_grow (s := standN m f) i (show p ≤ i by have := pm p; omega)
    rw [ent_succ, if_pos z, List.length_append] at a
    have a : (Ent (standN m f) i).length + 1 ≤ size := a
    omega
  | succ k ih =>
    intro p h
    have el : (entL m f (p * m + 1)).length = (Ent (standN m f) (p * m + 1)).length := List.length_map ..
    by_cases hl : (Ent (standN m f) p).length < (Ent (standN m f) (p * m + 1)).length
    · obtain ⟨q, a, b, c, d, g⟩ := ent_next _ (pm p) hl
      have e1 : (entL m f (p * m + 1))[(Ent (standN m f) p).length]? = some (standN m f q, rowN m q) := by
        unfold entL
        rw [List.getElem?_map, g]
        rfl
      have e2 : entL m f (p * m + 1) = entL m f (q * m + 1) := by unfold entL; rw [ent_kids hm a d]
      have e3 : Ent (standN m f) q = Ent (standN m f) p := ent_skip q a d
      have e4 : (Ent (standN m f) (q + 1)).length = (Ent (standN m f) p).length + 1 := by rw [ent_succ, if_pos c, List.length_append, e3]; rfl
      obtain ⟨q2, h1, h2⟩ := ih (q + 1) (by omega)
      refine ⟨q2, ?_, h2⟩
      rw [bfsL, e1]
      show bfsL m f k ((Ent (standN m f) p).length + 1) (kidsTo f (entL m f (p * m + 1)) (standN m f q) (rowN m q) m) = _
      rw [e2, kids_ok hm q m (Nat.le_refl _), ← e4, show q * m + 1 + m = (q + 1) * m + 1 by rw [Nat.succ_mul]; omega]
      exact h1
    · have e1 : (entL m f (p * m + 1))[(Ent (standN m f) p).length]? = none := List.getElem?_eq_none (by omega)
      refine ⟨p * m + 1, by rw [bfsL, e1], fun i hi => ?_⟩
      refine ent_end hm (p := p) (fun i h1 h2 z => ?_) i (by have := pm p; omega)
      have a := ent_grow (s := standN m f) i h1
      have b := ent_grow (s := standN m f) (p * m + 1) (show i + 1 ≤ p * m + 1 by omega)
      rw [ent_succ, if_pos z, List.length_append] at b
      have b : (Ent (standN m f) i).length + 1 ≤ _ := b
      omega
/-! the rows of a length -/
def offN (m : Nat) : Nat → Nat
  | 0 => 0
  | n + 1 => offN m n * m + 1
theorem off_pow (m : Nat) : ∀ n, offN m n + m ^ n = offN m (n + 1)
  | 0 => by show 0 + 1 = 0 * m + 1; omega
  | n + 1 => by
    have ih := off_pow m n
    show offN m n * m + 1 + m ^ n * m = offN m (n + 1) * m + 1
    rw [← ih, Nat.add_mul]
    omega
theorem lev (hm : 0 < m) : ∀ n i, offN m n ≤ i → Fst (standN m f) i → n + 1 ≤ (Ent (standN m f) (i + 1)).length
  | 0, i, _, h => by
    rw [ent_succ, if_pos h, List.length_append]
    show 0 + 1 ≤ _ + 1
    omega
  | n + 1, i, hi, h => by
    obtain ⟨j, rfl⟩ : ∃ j, i = j + 1 := ⟨i - 1, by have : offN m n * m + 1 ≤ i := hi; omega⟩
    have hi : offN m n * m + 1 ≤ j + 1 := hi
    have a := lev hm n (j / m) ((Nat.le_div_iff_mul_le hm).mpr (by omega)) (way_fst hm h)
    have d := Nat.div_le_self j m
    have b := ent_grow (s := standN m f) (j + 1) (show j / m + 1 ≤ j + 1 by omega)
    rw [ent_succ, if_pos h, List.length_append]
    show n + 1 + 1 ≤ _ + 1
    omega
theorem no_far {size : Nat} (hm : 0 < m) (hs : ∀ n, standN m f n < size) : ∀ i, offN m size ≤ i → ¬ Fst (standN m f) i := fun i hi h => by
  have a := lev hm size i hi h
  have b := ent_few hs (i + 1)
  omega
theorem bfs_all {size : Nat} (hm : 0 < m) (hs : ∀ n, standN m f n < size) : bfsL m f size 0 [(0, [])] = entL m f (offN m size) := by
  obtain ⟨q, h1, h2⟩ := bfs_ok hm hs size 0 (by omega)
  have e0 : entL m f (0 * m + 1) = [(0, [])] := by
    rw [Nat.zero_mul, entL_succ, if_pos (show Fst (standN m f) 0 from fun j hj => by omega)]
    rw [standN, rowN]
    rfl
  rw [e0] at h1
  have h1 : bfsL m f size 0 [(0, [])] = entL m f q := h1
  rw [h1]
  unfold entL
  rw [← ent_skip (s := standN m f) (a := q) (max q (offN m size)) (by omega) (fun i h _ => h2 i h), ← ent_skip (s := standN m f) (a := offN m size) (max q (offN m size)) (by omega) (fun i h _ => no_far hm hs i h)]
/-! the first row of some kind -/
theorem find_ent (e : Nat → Bool) : ∀ n, ((List.range n).find? fun i => e (standN m f i)).map (rowN m) = ((entL m f n).find? fun x => e x.1).map (·.2)
  | 0 => rfl
  | n + 1 => by
    have ih := find_ent e n
    rw [List.range_succ, List.find?_append, entL_succ, List.find?_append]
    cases h : (List.range n).find? fun i => e (standN m f i) with
    | some i =>
      rw [h] at ih
      cases k : (entL m f n).find? fun x => e x.1 with
      | some x => rw [k] at ih; exact ih
      | none => rw [k] at ih; cases ih
    | none =>
      rw [h] at ih
      cases k : (entL m f n).find? fun x => e x.1 with
      | some x => rw [k] at ih; cases ih
      | none =>
        cases he : e (standN m f n) with
        | false =>
          split
          · simp [he]
          · simp [he]
        | true =>
          have hf : Fst (standN m f) n := fun j hj z => by
            have := List.find?_eq_none.mp h j (List.mem_range.mpr hj)
            rw [z] at this
            exact this he
          rw [if_pos hf]
          simp [he]
end
end Hw

set_option Elab.async false
set_option linter.all false
set_option maxRecDepth 100000
set_option maxHeartbeats 4000000
/-! expressions that only lay new data: what they give, without their places -/
namespace Hw
open PySem PySem.Spec PyProof.Rows L2
/-- the heap without some places -/
def offs (l : List Addr) (H : Hp) : Hp := fun b => if b ∈ l then none else H b
theorem offs_at {l : List Addr} {b : Addr} {H : Hp} {o : HO} (h : offs l H b = some o) : b ∉ l ∧ H b = some o := by
  unfold offs at h
  by_cases e : b ∈ l
  · rw [if_pos e] at h; cases h
  · rw [if_neg e] at h; exact ⟨e, h⟩
theorem offs_of {l : List Addr} {b : Addr} {H : Hp} {o : HO} (n : b ∉ l) (h : H b = some o) : offs l H b = some o := by
  unfold offs
  rw [if_neg n]
  exact h
theorem offs_same {l : List Addr} {H : Hp} : Same (offs l H) H := fun _ _ h => (offs_at h).2
theorem offs_mono {l : List Addr} {H H' : Hp} (e : Same H H') : Same (offs l H) (offs l H') := fun b o h => by
  obtain ⟨n, h⟩ := offs_at h
  exact offs_of n (e b o h)
theorem offs_one {a : Addr} {H : Hp} : off a H = offs [a] H := by
  funext b
  unfold off offs
  by_cases h : b = a
  · rw [if_pos h, if_pos (by rw [h]; exact List.mem_singleton.mpr rfl)]
  · rw [if_neg h, if_neg fun z => h (List.mem_singleton.mp z)]
/-- a write at a hidden place -/
theorem offs_upd {l : List Addr} {F : Addr} {H : Hp} {o : HO} (h : F ∈ l) : offs l (upd H F o) = offs l H := by
  funext b
  unfold offs
  by_cases e : b ∈ l
  · rw [if_pos e, if_pos e]
  · rw [if_neg e, if_neg e, upd_ne fun z => e (by rw [z]; exact h)]
/-- what the work rests on: it stays while new things are laid -/
structure Stb (l : List Addr) (S : Hp → Prop) : Prop where
  keep : ∀ H H', S H → Same H H' → S H'
  new : ∀ H p, S H → H p = none → p ∉ l
abbrev Fi := V → Hp → Prop
def Ev (S : Hp → Prop) (φ : Fi) (te : TE) (σ : L2.St) : Prop := ∀ H Q, S H → (∀ x H', Same H H' → φ x H' → Q x H') → te σ H Q
def Eva (S : Hp → Prop) (Φ : List V → Hp → Prop) (ta : TA) (σ : L2.St) : Prop := ∀ H Q, S H → (∀ xs H', Same H H' → Φ xs H' → Q xs H') → ta σ H Q
def Evo (S : Hp → Prop) (to : TO) (σ : L2.St) : Prop := ∀ H (Q : Option Int → Hp → Prop), S H → (∀ x H', Same H H' → Q x H') → to σ H Q
/-- data; a list, a tuple of data; data one by one -/
def D (l : List Addr) (P : PyData → Prop) : Fi := fun x H => ∃ d, Dt (offs l H) x d ∧ P d
def LD (l : List Addr) (P : PyData → Prop) (n : Nat) : Fi := fun x H => ∃ p vs ds, x = .ref p ∧ offs l H p = some (.lst vs) ∧ DtAll (offs l H) vs ds ∧ (∀ d ∈ ds, P d) ∧ ds.length ≤ n
def TD (l : List Addr) (P : PyData → Prop) (n : Nat) : Fi := fun x H => ∃ p vs ds, x = .ref p ∧ offs l H p = some (.tup vs) ∧ DtAll (offs l H) vs ds ∧ (∀ d ∈ ds, P d) ∧ ds.length ≤ n
def AD (l : List Addr) (P : PyData → Prop) (n : Nat) : List V → Hp → Prop := fun xs H => ∃ ds, DtAll (offs l H) xs ds ∧ (∀ d ∈ ds, P d) ∧ ds.length ≤ n
section
variable {l : List Addr} {P : PyData → Prop} {k b n k' b' n' : Nat} {S : Hp → Prop} {σ : L2.St} {K : PySem.W.Frag}
theorem D.same {x : V} {H H' : Hp} (h : D l P x H) (e : Same H H') : D l P x H' := by
  obtain ⟨d, hd, hb⟩ := h
  exact ⟨d, hd.to (offs_mono e), hb⟩
theorem D.up {x : V} {H : Hp} (h : D l (Bnd k b) x H) (hk : k ≤ k') (hb : b ≤ b') : D l (Bnd k' b') x H := by
  obtain ⟨d, hd, h2⟩ := h
  exact ⟨d, hd, h2.up hk hb⟩
theorem LD.same {x : V} {H H' : Hp} (h : LD l P n x H) (e : Same H H') : LD l P n x H' := by
  obtain ⟨p, vs, ds, rfl, h1, h2, h3, h4⟩ := h
  exact ⟨p, vs, ds, rfl, offs_mono e _ _ h1, h2.to (offs_mono e), h3, h4⟩
theorem LD.d {x : V} {H : Hp} (h : LD l (Bnd k b) n x H) : D l (Bnd (k + 1) (n * (b + 1))) x H := by
  obtain ⟨p, vs, ds, rfl, h1, h2, h3, h4⟩ := h
  exact ⟨.list ds, .lst h1 h2, Bnd.list h3 h4 (Nat.le_refl _)⟩
theorem TD.d {x : V} {H : Hp} (h : TD l (Bnd k b) n x H) : D l (Bnd (k + 1) (n * (b + 1))) x H := by
  obtain ⟨p, vs, ds, rfl, h1, h2, h3, h4⟩ := h
  exact ⟨.tuple ds, .tup h1 h2, Bnd.tuple h3 h4 (Nat.le_refl _)⟩
theorem LD.up {x : V} {H : Hp} (h : LD l (Bnd k b) n x H) (hk : k ≤ k') (hb : b ≤ b') (hn : n ≤ n') : LD l (Bnd k' b') n' x H := by
  obtain ⟨p, vs, ds, rfl, h1, h2, h3, h4⟩ := h
  exact ⟨p, vs, ds, rfl, h1, h2, fun d hd => (h3 d hd).up hk hb, by omega⟩
theorem Ev.mono {φ ψ : Fi} {te : TE} (h : Ev S φ te σ) (m : ∀ x H, φ x H → ψ x H) : Ev S ψ te σ := fun H Q s q => h H Q s fun x H' e p => q x H' e (m x H' p)
theorem Ev.du {te : TE} (h : Ev S (D l (Bnd k b)) te σ) (hk : k ≤ k' := by decide) (hb : b ≤ b' := by decide) : Ev S (D l (Bnd k' b')) te σ := h.mono fun _ _ p => p.up hk hb
theorem Ev.ld {te : TE} (h : Ev S (LD l (Bnd k b) n) te σ) (hk : k + 1 ≤ k' := by decide) (hb : n * (b + 1) ≤ b' := by decide) : Ev S (D l (Bnd k' b')) te σ := h.mono fun _ _ p => p.d.up hk hb
theorem Ev.td {te : TE} (h : Ev S (TD l (Bnd k b) n) te σ) (hk : k + 1 ≤ k' := by decide) (hb : n * (b + 1) ≤ b' := by decide) : Ev S (D l (Bnd k' b')) te σ := h.mono fun _ _ p => p.d.up hk hb
theorem Ev.lu {te : TE} (h : Ev S (LD l (Bnd k b) n) te σ) (hk : k ≤ k' := by decide) (hb : b ≤ b' := by decide) (hn : n ≤ n' := by decide) : Ev S (LD l (Bnd k' b') n') te σ := h.mono fun _ _ p => p.up hk hb hn
/-! constants, names -/
theorem Ev.non : Ev S (D l (Bnd k b)) (tC .non) σ := fun H Q _ q => q _ H (Same.refl H) ⟨_, .non, .non⟩
theorem Ev.bl (x : Bool) : Ev S (D l (Bnd k b)) (tC (.bl x)) σ := fun H Q _ q => q _ H (Same.refl H) ⟨_, .bl x, .bl x⟩
theorem Ev.int (i : Int) (h : i.natAbs < 10 ^ 38 := by decide) : Ev S (D l (Bnd k b)) (tC (.int i)) σ := fun H Q _ q => q _ H (Same.refl H) ⟨_, .int i, .int h⟩
theorem Bnd.str {x : Str} (h : okD (.str x) = true) (hb : x.cps.size ≤ b) : Bnd k b (.str x) := ⟨h, by simp only [PyData.depth]; omega, by simp only [PyData.bulk]; omega⟩
theorem Ev.str (x : Str) (h : okD (.str x) = true := by decide +kernel) (hb : x.cps.size ≤ b := by decide +kernel) : Ev S (D l (Bnd k b)) (tC (.str x)) σ := fun H Q _ q => q _ H (Same.refl H) ⟨_, .str x, .str h hb⟩
theorem Ev.var {φ : Fi} {i : Nat} {x : V} (h : σ[i]? = some (some x)) (hx : ∀ H, S H → φ x H) : Ev S φ (tVar i) σ := fun H Q s q => ⟨x, h, q x H (Same.refl H) (hx H s)⟩
/-! lists, tuples -/
theorem Eva.nil : Eva S (AD l P 0) tNil σ := fun H Q _ q => q _ H (Same.refl H) ⟨[], .nil, (fun _ h => nomatch h), Nat.le_refl _⟩
theorem Eva.cons (st : Stb l S) {te : TE} {ta : TA} (h : Ev S (D l P) te σ) (r : Eva S (AD l P n) ta σ) : Eva S (AD l P (n + 1)) (tCons te ta) σ := fun H Q s q => by
  refine h H _ s fun x H1 e1 p1 => r H1 _ (st.keep _ _ s e1) fun xs H2 e2 p2 => q _ H2 (e1.trans e2) ?_
  obtain ⟨d, hd, hb⟩ := p1.same e2
  obtain ⟨ds, h1, h2, h3⟩ := p2
  exact ⟨d :: ds, .cons hd h1, fun y hy => by
    rcases List.mem_cons.mp hy with z | z
    · rw [z]; exact hb
    · exact h2 y z, by rw [List.length_cons]; omega⟩
theorem Ev.lst (st : Stb l S) {ta : TA} (h : Eva S (AD l P n) ta σ) (hn : n ≤ 100000 := by decide) : Ev S (LD l P n) (tLst ta) σ := fun H Q s q => by
  refine h H _ s fun xs H1 e1 p1 => ?_
  obtain ⟨ds, h1, h2, h3⟩ := p1
  refine ⟨by rw [h1.len, sizeLine_eq]; omega, fun p hp => ?_⟩
  have np := st.new H1 p (st.keep _ _ s e1) hp
  have e2 := same_new' (o := .lst xs) hp
  exact q _ _ (e1.trans e2) ⟨p, xs, ds, rfl, offs_of np upd_same, h1.to (offs_mono e2), h2, h3⟩
theorem Ev.tup (st : Stb l S) {ta : TA} (h : Eva S (AD l P n) ta σ) (hn : n ≤ 100000 := by decide) : Ev S (TD l P n) (tTup ta) σ := fun H Q s q => by
  refine h H _ s fun xs H1 e1 p1 => ?_
  obtain ⟨ds, h1, h2, h3⟩ := p1
  refine ⟨by rw [h1.len, sizeLine_eq]; omega, fun p hp => ?_⟩
  have np := st.new H1 p (st.keep _ _ s e1) hp
  have e2 := same_new' (o := .tup xs) hp
  exact q _ _ (e1.trans e2) ⟨p, xs, ds, rfl, offs_of np upd_same, h1.to (offs_mono e2), h2, h3⟩
theorem Ev.cat (st : Stb l S) {ta tb : TE} (h : Ev S (LD l P n) ta σ) (h' : Ev S (LD l P n') tb σ) (hn : n + n' ≤ 100000 := by decide) : Ev S (LD l P (n + n')) (tOp rCat ta tb) σ := fun H Q s q => by
  refine h H _ s fun x H1 e1 p1 => h' H1 _ (st.keep _ _ s e1) fun y H2 e2 p2 => ?_
  obtain ⟨p, vs, ds, rfl, a1, a2, a3, a4⟩ := p1.same e2
  obtain ⟨p', vs', ds', rfl, b1, b2, b3, b4⟩ := p2
  have h1 := a2.len
  have h2 := b2.len
  refine ⟨p, p', vs, vs', rfl, rfl, (offs_at a1).2, (offs_at b1).2, by rw [sizeLine_eq]; omega, fun r hr => ?_⟩
  have s2 := st.keep _ _ s (e1.trans e2)
  have nr := st.new H2 r s2 hr
  have e3 := same_new' (o := .lst (vs ++ vs')) hr
  exact q _ _ ((e1.trans e2).trans e3) ⟨r, _, ds ++ ds', rfl, offs_of nr upd_same, (a2.app b2).to (offs_mono e3), fun d hd => (List.mem_append.mp hd).elim (a3 d) (b3 d), by rw [List.length_append]; omega⟩
theorem Ev.catT (st : Stb l S) {ta tb : TE} (h : Ev S (TD l P n) ta σ) (h' : Ev S (TD l P n') tb σ) (hn : n + n' ≤ 100000 := by decide) : Ev S (TD l P (n + n')) (tOp (rCatA K) ta tb) σ := fun H Q s q => by
  refine h H _ s fun x H1 e1 p1 => h' H1 _ (st.keep _ _ s e1) fun y H2 e2 p2 => ?_
  obtain ⟨p, vs, ds, rfl, a1, a2, a3, a4⟩ := p1
  have a1 := offs_mono (l := l) e2 _ _ a1
  have a2 := a2.to (offs_mono e2)
  obtain ⟨p', vs', ds', rfl, b1, b2, b3, b4⟩ := p2
  have h1 := a2.len
  have h2 := b2.len
  refine ⟨p, p', vs, vs', rfl, rfl, .inl (.inl (offs_at a1).2), .inl (.inl (offs_at b1).2), by rw [sizeLine_eq]; omega, fun _ => ?_, fun _ _ => ?_, fun _ _ r hr => ?_⟩
  · exact q _ _ (e1.trans e2) ⟨p', vs', ds', rfl, b1, b2, b3, by omega⟩
  · exact q _ _ (e1.trans e2) ⟨p, vs, ds, rfl, a1, a2, a3, by omega⟩
  · have s2 := st.keep _ _ s (e1.trans e2)
    have nr := st.new H2 r s2 hr
    have e3 := same_new' (o := .tup (vs ++ vs')) hr
    exact q _ _ ((e1.trans e2).trans e3) ⟨r, _, ds ++ ds', rfl, offs_of nr upd_same, (a2.app b2).to (offs_mono e3), fun d hd => (List.mem_append.mp hd).elim (a3 d) (b3 d), by rw [List.length_append]; omega⟩
theorem DtAll.drop {H : Hp} : ∀ (i : Nat) {vs : List V} {ds : List PyData}, DtAll H vs ds → DtAll H (vs.drop i) (ds.drop i)
  | 0, _, _, h => h
  | _ + 1, _, _, .nil => .nil
  | i + 1, _, _, .cons _ r => DtAll.drop i r
theorem DtAll.take {H : Hp} : ∀ (i : Nat) {vs : List V} {ds : List PyData}, DtAll H vs ds → DtAll H (vs.take i) (ds.take i)
  | 0, _, _, _ => .nil
  | _ + 1, _, _, .nil => .nil
  | i + 1, _, _, .cons h r => .cons h (DtAll.take i r)
theorem cut_data {H : Hp} {vs : List V} {ds : List PyData} (h : DtAll H vs ds) (lo hi : Option Int) : ∃ es : List PyData, DtAll H (cutV vs lo hi) es ∧ (∀ d ∈ es, d ∈ ds) ∧ es.length ≤ ds.length := by
  unfold cutV
  refine ⟨_, DtAll.take _ (DtAll.drop _ h), fun d hd => List.mem_of_mem_drop (List.mem_of_mem_take hd), ?_⟩
  rw [List.length_take, List.length_drop]
  omega
theorem Ev.cut (st : Stb l S) {te : TE} {lo hi : TO} (h : Ev S (LD l P n) te σ) (h1 : Evo S lo σ) (h2 : Evo S hi σ) : Ev S (LD l P n) (L2.tSl (rSlL K) te lo hi) σ := fun H Q s q => by
  refine h H _ s fun x H1 e1 p1 => h1 H1 _ (st.keep _ _ s e1) fun i H2 e2 => h2 H2 _ (st.keep _ _ s (e1.trans e2)) fun j H3 e3 => ?_
  obtain ⟨p, vs, ds, rfl, a1, a2, a3, a4⟩ := p1.same (e2.trans e3)
  refine ⟨p, vs, rfl, .inl (.inl (offs_at a1).2), fun r hr => ?_⟩
  have e4 := e1.trans (e2.trans e3)
  have nr := st.new H3 r (st.keep _ _ s e4) hr
  have e5 := same_new' (o := .lst (cutV vs i j)) hr
  obtain ⟨es, c1, c2, c3⟩ := cut_data a2 i j
  exact q _ _ (e4.trans e5) ⟨r, _, es, rfl, offs_of nr upd_same, c1.to (offs_mono e5), fun d hd => a3 d (c2 d hd), by omega⟩
theorem Ev.cutT (st : Stb l S) {te : TE} {lo hi : TO} (h : Ev S (TD l P n) te σ) (h1 : Evo S lo σ) (h2 : Evo S hi σ) : Ev S (TD l P n) (L2.tSl (rSlA K) te lo hi) σ := fun H Q s q => by
  refine h H _ s fun x H1 e1 p1 => h1 H1 _ (st.keep _ _ s e1) fun i H2 e2 => h2 H2 _ (st.keep _ _ s (e1.trans e2)) fun j H3 e3 => ?_
  obtain ⟨p, vs, ds, rfl, a1, a2, a3, a4⟩ := p1
  have e23 := e2.trans e3
  have a1 := offs_mono (l := l) e23 _ _ a1
  have a2 := a2.to (offs_mono e23)
  have e4 := e1.trans (e2.trans e3)
  refine ⟨p, vs, rfl, .inl (.inl (offs_at a1).2), fun _ => q _ _ e4 ⟨p, vs, ds, rfl, a1, a2, a3, a4⟩, fun _ r hr => ?_⟩
  have nr := st.new H3 r (st.keep _ _ s e4) hr
  have e5 := same_new' (o := .tup (cutV vs i j)) hr
  obtain ⟨es, c1, c2, c3⟩ := cut_data a2 i j
  exact q _ _ (e4.trans e5) ⟨r, _, es, rfl, offs_of nr upd_same, c1.to (offs_mono e5), fun d hd => a3 d (c2 d hd), by omega⟩
theorem Evo.no : Evo S tNoPart σ := fun H Q _ q => q _ H (Same.refl H)
/-- an int -/
def I : Fi := fun x _ => ∃ i : Int, x = .int i
theorem Ev.intI (i : Int) : Ev S I (tC (.int i)) σ := fun H Q _ q => q _ H (Same.refl H) ⟨i, rfl⟩
theorem Ev.varI {i : Nat} {j : Int} (h : σ[i]? = some (some (.int j))) : Ev S I (tVar i) σ := fun H Q s q => ⟨_, h, q _ H (Same.refl H) ⟨j, rfl⟩⟩
theorem Evo.some {te : TE} (h : Ev S I te σ) : Evo S (tPart te) σ := fun H Q s q => h H _ s fun x H1 e1 p => by
  obtain ⟨i, rfl⟩ := p
  exact ⟨i, rfl, q _ H1 e1⟩
theorem Ev.listL (st : Stb l S) {te : TE} (h : Ev S (LD l P n) te σ) : Ev S (LD l P n) (tCB (rListK K) (tCons te tNil)) σ := fun H Q s q => by
  refine h H _ s fun x H1 e1 p1 => ?_
  obtain ⟨p, vs, ds, rfl, a1, a2, a3, a4⟩ := p1
  refine ⟨p, vs, rfl, .inl (.inl (.inl (offs_at a1).2)), fun r hr => ?_⟩
  have nr := st.new H1 r (st.keep _ _ s e1) hr
  have e5 := same_new' (o := .lst vs) hr
  exact q _ _ (e1.trans e5) ⟨r, _, ds, rfl, offs_of nr upd_same, a2.to (offs_mono e5), a3, a4⟩
theorem Ev.listT (st : Stb l S) {te : TE} (h : Ev S (TD l P n) te σ) : Ev S (LD l P n) (tCB (rListK K) (tCons te tNil)) σ := fun H Q s q => by
  refine h H _ s fun x H1 e1 p1 => ?_
  obtain ⟨p, vs, ds, rfl, a1, a2, a3, a4⟩ := p1
  refine ⟨p, vs, rfl, .inr (.inl (.inl (offs_at a1).2)), fun r hr => ?_⟩
  have nr := st.new H1 r (st.keep _ _ s e1) hr
  have e5 := same_new' (o := .lst vs) hr
  exact q _ _ (e1.trans e5) ⟨r, _, ds, rfl, offs_of nr upd_same, a2.to (offs_mono e5), a3, a4⟩
theorem Ev.tupL (st : Stb l S) {te : TE} (h : Ev S (LD l P n) te σ) : Ev S (TD l P n) (tCB (rTupK K) (tCons te tNil)) σ := fun H Q s q => by
  refine h H _ s fun x H1 e1 p1 => ?_
  obtain ⟨p, vs, ds, rfl, a1, a2, a3, a4⟩ := p1
  refine ⟨p, vs, rfl, .inl ⟨.inl (.inl (offs_at a1).2), fun r hr => ?_⟩⟩
  have nr := st.new H1 r (st.keep _ _ s e1) hr
  have e5 := same_new' (o := .tup vs) hr
  exact q _ _ (e1.trans e5) ⟨r, _, ds, rfl, offs_of nr upd_same, a2.to (offs_mono e5), a3, a4⟩
theorem Ev.len {te : TE} (h : Ev S (LD l (Bnd k b) n) te σ) (hn : n ≤ 100000 := by decide) : Ev S (D l (Bnd k' b')) (tCB (rLenK K) (tCons te tNil)) σ := fun H Q s q => by
  refine h H _ s fun x H1 e1 p1 => ?_
  obtain ⟨p, vs, ds, rfl, a1, a2, a3, a4⟩ := p1
  have := a2.len
  exact ⟨p, vs, rfl, .inl (.inl (.inl (offs_at a1).2)), q _ _ e1 ⟨_, .int _, .int (by omega)⟩⟩
theorem Ev.rep (st : Stb l S) {ta : TE} {j : Nat} (h : Ev S (LD l P n) ta σ) (hj : n * j ≤ 100000 := by decide) (hj2 : j ≤ 1000 := by decide) : Ev S (LD l P (n * j)) (tOp rRep ta (tC (.int (j : Int)))) σ := fun H Q s q => by
  refine h H _ s fun x H1 e1 p1 => ?_
  obtain ⟨p, vs, ds, rfl, a1, a2, a3, a4⟩ := p1
  have hl := a2.len
  have hm : ds.length * j ≤ n * j := Nat.mul_le_mul_right j a4
  refine ⟨p, j, vs, rfl, rfl, (offs_at a1).2, by omega, by omega, by rw [hl, Int.toNat_natCast, sizeLine_eq]; omega, fun r hr => ?_⟩
  have nr := st.new H1 r (st.keep _ _ s e1) hr
  have e5 := same_new' (o := .lst (List.replicate (j : Int).toNat vs).flatten) hr
  have key : ∀ m : Nat, DtAll (offs l H1) (List.replicate m vs).flatten (List.replicate m ds).flatten := by
    intro m
    induction m with
    | zero => exact .nil
    | succ m ih =>
      rw [List.replicate_succ, List.replicate_succ, List.flatten_cons, List.flatten_cons]
      exact a2.app ih
  refine q _ _ (e1.trans e5) ⟨r, _, (List.replicate j ds).flatten, rfl, offs_of nr upd_same, ?_, fun d hd => ?_, ?_⟩
  · rw [Int.toNat_natCast]
    exact (key j).to (offs_mono (by rw [Int.toNat_natCast] at e5; exact e5))
  · obtain ⟨m, hm1, hm2⟩ := List.mem_flatten.mp hd
    rw [List.eq_of_mem_replicate hm1] at hm2
    exact a3 d hm2
  · rw [List.length_flatten, List.map_replicate, List.sum_replicate_nat, Nat.mul_comm]
    exact hm
end
end Hw
namespace Hw
open PySem PySem.Spec PyProof.Rows L2
/-! ### statements, read one by one -/
def iAt (J : It) : TI := fun _ H R => R J H
section
variable {K : PySem.W.Frag} {te : TE} {g : TG} {tb t u : TS} {d : Ends} {σ : L2.St} {H : Hp} {i : Nat}
theorem forL (h : te σ H fun x H1 => ∃ a, x = .ref a ∧ (∃ xs, SqL K H1 a xs) ∧ tFor (iAt (Itl K a)) g tb d σ H1) : tFor (iList K te) g tb d σ H := h
theorem seqL (h : t { d with nx := u d } σ H) : tSeq t u d σ H := h
theorem setL (h : te σ H fun x H1 => d.nx (σ.set i (some x)) H1) : tAsg te (gName i) d σ H := h
theorem setNil (h : ∀ p, H p = none → d.nx (σ.set i (some (.ref p))) (upd H p (.lst []))) : tAsg (tLst tNil) (gName i) d σ H := ⟨Nat.zero_le _, h⟩
theorem retL (h : te σ H d.rt) : tRet te d σ H := h
end
end Hw
namespace Hw
open PySem PySem.Spec PyProof.Rows L2
section
variable {X : Cx} {K : PySem.W.Frag}
theorem pi_enumK {e : Expr} {ta : TA} {p pos tpos : Pos} {elts : List Expr} {kk : Nat} (h : X.K = K) (hg : Gl X "enumerate") (hm : X.mg "enumerate" = none) (ha : PA X [e] ta) (hs : starEach [e] X.env = [(false, eval e X.env)] := by rfl) :
    PI X (.Tuple elts kk tpos) (.Call (.Name "enumerate" p) [e] [] pos) (iEnum K ta) := by
  subst h
  exact pi_enum hg hm ha hs
theorem pi_listK {tg : Expr} {l : Expr} {tl : TE} (h : X.K = K) (hl : PE X l tl) : PI X tg l (iList K tl) := by
  subst h
  exact pi_list hl
end
end Hw
namespace Hw
open PySem PySem.Spec PyProof.Rows L2
/-! ### literals, told exactly -/
def Ed (d : PyData) : Fi := fun x H => Dt H x d
def Eda (ds : List PyData) : List V → Hp → Prop := fun xs H => DtAll H xs ds
abbrev Tr : Hp → Prop := fun _ => True
section
variable {σ : L2.St} {ds : List PyData} {d : PyData} {te : TE} {ta : TA} {i j : Nat} {e : Ends} {H : Hp}
theorem Ev.eint (i : Int) : Ev Tr (Ed (.int i)) (tC (.int i)) σ := fun H Q _ q => q _ H (Same.refl H) (.int i)
theorem Ev.ebl (b : Bool) : Ev Tr (Ed (.bool b)) (tC (.bl b)) σ := fun H Q _ q => q _ H (Same.refl H) (.bl b)
theorem Ev.estr (x : Str) : Ev Tr (Ed (.str x)) (tC (.str x)) σ := fun H Q _ q => q _ H (Same.refl H) (.str x)
theorem Ev.enon : Ev Tr (Ed .none) (tC .non) σ := fun H Q _ q => q _ H (Same.refl H) .non
theorem Eva.enil : Eva Tr (Eda []) tNil σ := fun H Q _ q => q _ H (Same.refl H) .nil
theorem Eva.econs (h : Ev Tr (Ed d) te σ) (r : Eva Tr (Eda ds) ta σ) : Eva Tr (Eda (d :: ds)) (tCons te ta) σ := fun H Q s q => h H _ s fun x H1 e1 p1 => r H1 _ s fun xs H2 e2 p2 => q _ H2 (e1.trans e2) (.cons (Dt.to p1 e2) p2)
theorem Ev.elst (h : Eva Tr (Eda ds) ta σ) (hn : ds.length ≤ 100000 := by decide) : Ev Tr (Ed (.list ds)) (tLst ta) σ := fun H Q s q => h H _ s fun xs H1 e1 p1 => by
  have p1 : DtAll H1 xs ds := p1
  refine ⟨by rw [p1.len, sizeLine_eq]; omega, fun p hp => ?_⟩
  have e2 := same_new' (o := .lst xs) hp
  exact q _ _ (e1.trans e2) (Dt.lst upd_same (p1.to e2))
theorem Ev.etup (h : Eva Tr (Eda ds) ta σ) (hn : ds.length ≤ 100000 := by decide) : Ev Tr (Ed (.tuple ds)) (tTup ta) σ := fun H Q s q => h H _ s fun xs H1 e1 p1 => by
  have p1 : DtAll H1 xs ds := p1
  refine ⟨by rw [p1.len, sizeLine_eq]; omega, fun p hp => ?_⟩
  have e2 := same_new' (o := .tup xs) hp
  exact q _ _ (e1.trans e2) (Dt.tup upd_same (p1.to e2))
theorem parL (h : ta σ H fun vs H1 => ∃ v w, vs = [v, w] ∧ e.nx ((σ.set i (some v)).set j (some w)) H1) : tPar i j ta e σ H := h
theorem Dt.nats_at {x : V} {l : List Nat} (h : Dt H x (.list (natD l))) : ∃ a, x = .ref a ∧ H a = some (.lst (natV l)) := by
  cases h with
  | @lst a xs _ ha hs =>
    have e := DtAll.nats_inv _ _ hs
    subst e
    exact ⟨a, rfl, ha⟩
theorem natV_rep (n x : Nat) : (List.replicate n [V.int (x : Int)]).flatten = natV (List.replicate n x) := by
  unfold natV
  rw [List.map_replicate]
  induction n with
  | zero => rfl
  | succ n ih => rw [List.replicate_succ, List.flatten_cons, ih, List.replicate_succ]; rfl
theorem natV_rep2 (n x y : Nat) : (List.replicate n [V.int (x : Int), .int (y : Int)]).flatten = natV (List.replicate n [x, y]).flatten := by
  unfold natV
  rw [List.map_flatten, List.map_replicate]
  rfl
end
end Hw

set_option Elab.async false
set_option linter.all false
set_option maxRecDepth 100000
set_option maxHeartbeats 4000000
/-! own exceptions as values, made with keywords too -/
namespace Hw
open PySem PySem.Spec PyProof.Rows L2
open PySem.W PySem.Calls PySem.HandSPX
section
variable {prog : Program} {w : World} {A : Around} {E : Value → Shared → Prop} {R : Result → Shared → Prop} {h : Heap} {g : Array GenState} {d : Drawn} {t : Nat} {os : OsState}
variable {nm q : Str} {C N : Addr} {bs bm bmB : List Value} {hdct : Bool} {sn : List Str} {sub : List Value} {ab : Bool} {col : Option Bool} {dd : Option Addr} {k0 k1 k2 k3 k5 : Option Value} {B newId initId : String}
variable {rest : List Value} {kw : List (Str × Value)}
/-- the check of the maker's call, keywords or not -/
theorem new_checks {M : Model} {Q : Unit → Shared → Prop} (F : ExcBaseFacts B newId initId bmB) (tail : ∀ Y : String, bm.contains (.type Y) = bmB.contains (.type Y))
    (hC : h.get? C = some (excClassObj nm q C N bs bm hdct sn sub ab col dd k0 k1 k2 k3 k5 newId)) (next : Q () ⟨h, g, d, t, os⟩) : wpAny M A (checkBuiltinCall newId ⟨.ref C :: rest, kw⟩) Q E ⟨h, g, d, t, os⟩ := by
  have isB : (Value.ref C :: bm).contains (.type B) = true := by
    rw [List.contains_cons, tail, F.hasB]
    exact Bool.or_true _
  have ns := F.noStar
  simp only [checkBuiltinCall, F.newKind, F.newSplit, F.newRow]
  repeat' (first
    | refine wpAny_loadPart_at hC ?_
    | (refine wpAny_isSubtype_exc hC ?_
       rw [isB])
    | refine wpAny_staticBase_exc hC ?_
    | refine wpAny_madeBy_exc hC ?_
    | simp only [bne_self_eq_false, Bool.false_eq_true, if_false]
    | wp_step)
  all_goals first | exact next | skip
/-- the maker itself: a tuple of what it got by position, the exception -/
theorem new_makes (F : ExcBaseFacts B newId initId bmB) (tail : ∀ Y : String, bm.contains (.type Y) = bmB.contains (.type Y))
    (hC : h.get? C = some (excClassObj nm q C N bs bm hdct sn sub ab col dd k0 k1 k2 k3 k5 newId)) (few : rest.length ≤ sizeLine)
    (next : R (.ok (.ret (.ref (h.objs.size + 1)))) ⟨(h.push (W.kdv_tup rest)).push (excO C h.objs.size), g, d, t, os⟩) :
    codeAny (model prog w) A (.builtin newId ⟨.ref C :: rest, kw⟩) R ⟨h, g, d, t, os⟩ := by
  have e1 := F.ends
  have isB : (Value.ref C :: bm).contains (.type B) = true := by
    rw [List.contains_cons, tail, F.hasB]
    exact Bool.or_true _
  have noA : (Value.ref C :: bm).contains (.type "AttributeError") = false := by
    rw [List.contains_cons, tail, F.noAttr]
    rfl
  have noN : (Value.ref C :: bm).contains (.type "NameError") = false := by
    rw [List.contains_cons, tail, F.noName]
    rfl
  refine codeAny_builtinAt F.entry ?_
  unfold Builtin.«BaseException.__new__»
  refine PySem.wpAt_bind ?_
  show PySem.wpAt _ _ _ (stack >>= _) _ _ _
  refine PySem.wpAt_bind (PySem.wpAt_stack fun p below => PySem.wpAt_of_wpAny ?_)
  wp_walk
  refine PySem.wpAt_of_wpAny ?_
  rw [F.owner]
  repeat (first
    | with_reducible refine wpAny_madeHere_exc F.canon hC ?_
    | with_reducible refine wpAny_loadPart_at hC ?_
    | (with_reducible refine wpAny_isSubtype_exc hC ?_
       first | rw [isB] | rw [noA] | rw [noN])
    | wp_step)
  show R _ _
  rw [Heap.size_push]
  exact next
theorem type_makes {fI : Addr} {Q : Fin → Shared → Prop} (F : ExcBaseFacts B newId initId bmB) (tail : ∀ Y : String, bm.contains (.type Y) = bmB.contains (.type Y))
    (hC : h.get? C = some (excClassObj nm q C N bs bm hdct sn sub ab col dd k0 k1 k2 k3 k5 newId))
    (look : W.Looks (model prog w) h (typeLookup (.ref C) "__init__") (some (.ref fI))) (bound : ∀ self, W.Looks (model prog w) h (bindSpecial (.ref fI) self) (.ref fI, [self])) (few : rest.length ≤ sizeLine)
    (run : codeAny (model prog w) A (.call (.ref fI) ⟨.ref (h.objs.size + 1) :: rest, kw⟩) (fun r s' => match r with
        | .ok (.ret v) => v = .none ∧ Q (.done (.ret (.ref (h.objs.size + 1)))) s'
        | .ok _ => False
        | .error e => E e s') ⟨(h.push (W.kdv_tup rest)).push (excO C h.objs.size), g, d, t, os⟩) :
    wpAny (model prog w) A (Builtin.«type.__call__» ⟨.ref C :: rest, kw⟩) Q E ⟨h, g, d, t, os⟩ := by
  repeat (first
    | with_reducible refine wpAny_loadPart_at hC ?_
    | with_reducible refine wpAny_madeBy_exc hC ?_
    | wp_step)
  refine codeAny_call_builtin_code (Code.quiet_builtin _ F.quiet) (new_checks F tail hC ?_)
  refine new_makes F tail hC few ?_
  show wpAny _ _ _ _ _ _
  have kept : ∀ b o, h.get? b = some o → ((h.push (W.kdv_tup rest)).push (excO C h.objs.size)).get? b = some o := fun b o e => Heap.get?_push_of_some _ (Heap.get?_push_of_some _ e)
  have c1 := kept _ _ hC
  have made : ((h.push (W.kdv_tup rest)).push (excO C h.objs.size)).get? (h.objs.size + 1) = some (excO C h.objs.size) := by heap_get
  have self_in : (Value.ref C :: bm).contains (.ref C) = true := by simp
  have l1 := look.keeps kept
  have b1 := (bound (.ref (h.objs.size + 1))).keeps kept
  unfold isInstance
  repeat (first
    | with_reducible refine wpAny_loadPart_at made ?_
    | (with_reducible refine wpAny_isSubtype_exc c1 ?_
       rw [self_in])
    | wp_step)
  show wpAny _ _ (typeLookup (.ref C) _) _ _ _
  refine l1.at (wpAny_holding (wpAny_bind (b1.at (wpAny_bind (wpAny_call (codeAny_mono run fun r s' z => ?_))))))
  cases r with
  | error e => exact z
  | ok v =>
    cases v with
    | ret v =>
      obtain ⟨rfl, z⟩ := z
      first
        | exact wpAny_pure (wpAny_pure z)
        | (wp_walk
           exact z)
    | next => exact z.elim
    | brk => exact z.elim
    | cont => exact z.elim
theorem type_checks {M : Model} {Q : Unit → Shared → Prop} (hC : h.get? C = some (excClassObj nm q C N bs bm hdct sn sub ab col dd k0 k1 k2 k3 k5 newId)) (next : Q () ⟨h, g, d, t, os⟩) : wpAny M A (checkBuiltinCall "type.__call__" ⟨.ref C :: rest, kw⟩) Q E ⟨h, g, d, t, os⟩ := by
  have sub := tc_sub
  have ty : (⟨h, g, d, t, os⟩ : Shared).TypeIs (.ref C) "type" := ⟨_, hC, rfl⟩
  simp only [checkBuiltinCall, tc_kind, tc_split]
  repeat (any_goals (first
    | assumption
    | with_reducible refine wpAny_loadPart_at hC ?_
    | with_reducible refine wpAny_onRaise ?_
    | with_reducible refine wpAny_map ?_
    | wp_step))
/-- C(.., name=..): an own exception whose __init__ is a def -/
theorem call_makes {fI : Addr} (F : ExcBaseFacts B newId initId bmB) (tail : ∀ Y : String, bm.contains (.type Y) = bmB.contains (.type Y))
    (hC : h.get? C = some (excClassObj nm q C N bs bm hdct sn sub ab col dd k0 k1 k2 k3 k5 newId))
    (look : W.Looks (model prog w) h (typeLookup (.ref C) "__init__") (some (.ref fI))) (bound : ∀ self, W.Looks (model prog w) h (bindSpecial (.ref fI) self) (.ref fI, [self])) (few : rest.length ≤ sizeLine)
    (run : codeAny (model prog w) (A.under (.builtin "type.__call__" ⟨.ref C :: rest, kw⟩)) (.call (.ref fI) ⟨.ref (h.objs.size + 1) :: rest, kw⟩) (W.InitBack (h.objs.size + 1) R)
      ⟨(h.push (W.kdv_tup rest)).push (excO C h.objs.size), g, d, t, os⟩) :
    codeAny (model prog w) A (.call (.ref C) ⟨rest, kw⟩) R ⟨h, g, d, t, os⟩ := by
  have f1 := tc_lookup
  have f2 := tc_bind (.ref C)
  have ty : (⟨h, g, d, t, os⟩ : Shared).TypeIs (.ref C) "type" := ⟨_, hC, rfl⟩
  refine codeAny_of_tree ?_
  show wpAny _ _ (callAny (.ref C) _) _ _ _
  repeat (any_goals (first
    | assumption
    | with_reducible refine wpAny_loadPart_at hC ?_
    | wp_step))
  refine ⟨rfl, ?_⟩
  refine codeAny_call_builtin_at (Code.quiet_builtin _ (by decide +kernel)) entry_typeCall (type_checks hC (type_makes F tail hC look bound few (codeAny_mono run fun r s' z => ?_)))
  rcases r with e | (v | _ | _ | _)
  all_goals exact z
end
end Hw

namespace Hw
open PySem PySem.Spec PyProof.Rows L2
/-- what is asked of an own exception class whose __init__ keeps its value -/
structure XcF (K : PySem.W.Frag) (C : Addr) : Prop where
  oex : OexC K C
  fld : XfC K C
  cl : PySem.W.findIn K (.ref C) "__class__" = some (some (.builtin "object.__class__"))
  sp : PySem.W.specialIn K (.builtin "object.__class__") "__get__" = some (some (.builtin "getset_descriptor.__get__"))
  tk : PySem.W.takesIn K (.builtin "object.__class__") = some true
  ob : PySem.W.mroIn K C (.type "object") = some true
  is : (PySem.W.clsIn K C).isSome = true
  no : PySem.W.findIn K (.ref C) "value" = some none
def shapeB (K : PySem.W.Frag) (C : Addr) : Bool := match K.lookup C with
  | some ⟨.type t, _, .cls cd, sl⟩ => (match cd.mro, sl.toList with
    | .ref c0 :: bm, [_, _, _, _, some (.builtin nw), _] => decide (t = "type") && (decide (c0 = C) && (decide (nw = "ValueError.__new__") && (cd.hasDict && (!cd.hasDel && PySem.HandSPX.refsVE bm))))
    | _, _ => false)
  | _ => false
theorem shape_ok {K : PySem.W.Frag} {C : Addr} (h : shapeB K C = true) : ∃ nm q N bs bm sn sub ab col dd k0 k1 k2 k3 k5, K.lookup C = some (excClassObj nm q C N bs bm true sn sub ab col dd k0 k1 k2 k3 k5 "ValueError.__new__") ∧ PySem.HandSPX.refsVE bm = true := by
  unfold shapeB at h
  split at h
  · rename_i t dd cd sl look
    split at h
    · rename_i c0 bm k0 k1 k2 k3 nw k5 e1 e2
      simp only [Bool.and_eq_true, decide_eq_true_eq, Bool.not_eq_true'] at h
      obtain ⟨ht, hc, hn, hd, hl, hv⟩ := h
      subst ht hc hn
      obtain ⟨nm, bs, mro, ns, qn, hd', sn, sub, ab, col, del⟩ := cd
      dsimp only at e1 hd hl
      subst e1 hd hl
      have es : sl = #[k0, k1, k2, k3, some (.builtin "ValueError.__new__"), k5] := by
        obtain ⟨l⟩ := sl
        dsimp only at e2
        rw [e2]
      subst es
      exact ⟨nm, qn, ns, bs, bm, sn, sub, ab, col, dd, k0, k1, k2, k3, k5, look, hv⟩
    · cases h
  · cases h
def xcB (K : PySem.W.Frag) (C : Addr) : Bool :=
  shapeB K C && (He.eqO (PySem.W.findIn K (.ref C) "__setattr__") (some (some (.builtin "object.__setattr__"))) && (decide (PySem.W.subIn K (.ref C) (.type "BaseException") = some true) && (decide (PySem.W.typeIn K (.ref C) = some (.type "type")) && (PySem.W.keepIn K (.ref C) &&
  (xfB K C && (He.eqO (PySem.W.findIn K (.ref C) "__class__") (some (some (.builtin "object.__class__"))) && (He.eqO (PySem.W.specialIn K (.builtin "object.__class__") "__get__") (some (some (.builtin "getset_descriptor.__get__"))) &&
  (decide (PySem.W.takesIn K (.builtin "object.__class__") = some true) && (decide (PySem.W.mroIn K C (.type "object") = some true) && ((PySem.W.clsIn K C).isSome && He.eqO (PySem.W.findIn K (.ref C) "value") (some none)))))))))))
theorem xcB_ok {K : PySem.W.Frag} {C : Addr} (h : xcB K C = true) : XcF K C := by
  unfold xcB at h
  obtain ⟨h1, h⟩ := He.ba h
  obtain ⟨h2, h⟩ := He.ba h
  obtain ⟨h3, h⟩ := He.ba h
  obtain ⟨h4, h⟩ := He.ba h
  obtain ⟨h5, h⟩ := He.ba h
  obtain ⟨h6, h⟩ := He.ba h
  obtain ⟨h7, h⟩ := He.ba h
  obtain ⟨h8, h⟩ := He.ba h
  obtain ⟨h9, h⟩ := He.ba h
  obtain ⟨hA, h⟩ := He.ba h
  obtain ⟨hB, hC⟩ := He.ba h
  exact ⟨⟨shape_ok h1, He.eqO_ok h2, of_decide_eq_true h3, of_decide_eq_true h4, h5⟩, xfB_ok h6, He.eqO_ok h7, He.eqO_ok h8, of_decide_eq_true h9, of_decide_eq_true hA, hB, He.eqO_ok hC⟩
section
variable {X : Cx}
/-- e.value of an own exception that is held -/
def tXv (K : PySem.W.Frag) (n : Str) (te : TE) : TE := fun σ H Q => te σ H fun x H1 => ∃ (a C d : Addr) (fs : List (Str × V)) (y : V), x = .ref a ∧ XfC K C ∧ PySem.W.findIn K (.ref C) n = some none ∧ H1 a = some (exo a C (some d)) ∧ H1 d = some (exd d fs) ∧ fs.lookup n = some y ∧ Q y H1
theorem pe_xv {K : PySem.W.Frag} {e : Expr} {te : TE} {pos : Pos} {n : Str} (hK : X.K = K) (he : PE X e te) (hb : attributeBase e n X.env (eval e X.env) = eval e X.env := by rfl) : PE X (.Attribute e n pos) (tXv K n te) := by
  subst hK
  constructor
  intro pins s σ H Q I h
  refine attr_of hb (thn (he.run pins s σ H _ I h) ?_)
  rintro u s1 ⟨x, H1, I1, rx, a, C, d, fs, y, rfl, T, no, ea, ed, l, q⟩
  cases (show u = Value.ref a from rx)
  obtain ⟨t1, oa⟩ := exo_at I1.hok ea
  obtain ⟨mA, ns, rel⟩ := exd_at I1.hok ed
  obtain ⟨od, look, val⟩ := lookIn_ns ns
  obtain ⟨v, hv, rv⟩ := RelO.some_of (v := y) (o := mA n) (by rw [← l]; exact rel n)
  have at_ : PySem.W.InstAt s1.heap a { cls := .ref C, dict := some d, data := .fields #[.ref t1, .none, .none, .none, .bool false, .none] } C (some od) := ⟨oa, rfl, rfl, look⟩
  exact HandSPX.exc_get I1.kIn at_ T.ga T.gg T.exC (PySem.W.findObj_own T.hdC no rfl (by rw [val, hv])) (handed_of rv) ⟨y, H1, I1.tok _, rv, q⟩
/-- isinstance(e, T) of an own exception that is held -/
def rIsX (K : PySem.W.Frag) : List V → Hp → VK → Prop := fun xs H Q => ∃ (a C : Addr) (d : Option Addr) (c : V) (u : Value) (b : Bool), xs = [.ref a, c] ∧ ClsV c u ∧ XcF K C ∧ H a = some (exo a C d) ∧ (∀ e, d = some e → ∃ fs, H e = some (exd e fs)) ∧ PySem.W.kitOne K (.ref C) u = some b ∧ Q (.bl b) H
theorem call_isX {K : PySem.W.Frag} (hK : X.K = K) : CallR X (.builtin "isinstance") (rIsX K) := by
  subst hK
  intro pins s σ H xs us Q I r h
  obtain ⟨a, C, d, c, u, b, rfl, k, T, ea, hd, e, q⟩ := h
  obtain ⟨u1, u2, rfl, r1, r2⟩ := vals2 r
  cases k.eq r2
  cases (show u1 = Value.ref a from r1)
  obtain ⟨t1, oa⟩ := exo_at I.hok ea
  have is : ∃ od, PySem.W.InstAt s.heap a { cls := .ref C, dict := d, data := .fields #[.ref t1, .none, .none, .none, .bool false, .none] } C od := by
    cases d with
    | none => exact ⟨none, oa, rfl, rfl, trivial⟩
    | some d =>
      obtain ⟨fs, ed⟩ := hd d rfl
      obtain ⟨mA, ns, _⟩ := exd_at I.hok ed
      obtain ⟨od, look, _⟩ := lookIn_ns ns
      exact ⟨some od, oa, rfl, rfl, look⟩
  obtain ⟨od, J⟩ := is
  exact PySem.W.kia_one (PySem.W.kitx_exc T.is T.fld.ga T.fld.gg T.oex.exC T.cl T.sp T.tk T.ob) I.kIn J e (fun z => nomatch z) fun tk => ⟨.bl b, H, I.tok tk, rfl, q⟩
end
end Hw

set_option Elab.async false
set_option linter.all false
set_option maxRecDepth 100000
set_option maxHeartbeats 4000000
/-! C(value), C(value=..), C(): an own exception is made and held -/
namespace Hw
open PySem PySem.Spec PyProof.Rows L2
/-- the promise of such an __init__ -/
def spInit (K : PySem.W.Frag) : Sp := fun vs H Q _ => ∃ (a C : Addr) (y : V), vs = [.ref a, y] ∧ OexC K C ∧ PySem.W.findIn K (.ref C) "value" = some none ∧ H a = some (exo a C none) ∧ ∀ d, H d = none → d ≠ a → Q .non (upd (upd H d (exd d [("value", y)])) a (exo a C (some d)))
/-- what was made: a, its dict d, the value y -/
def Made (H : Hp) (C : Addr) (y : V) (Q : VK) : Prop := ∀ (a d : Addr) (H' : Hp), H a = none → H d = none → d ≠ a → Same H H' → H' a = some (exo a C (some d)) → H' d = some (exd d [("value", y)]) → Q (.ref a) H'
section
variable {X : Cx} {CX : CXT} {k : Nat} {fI C : Addr} {fd : FuncData}
theorem run_made {pins : List (Addr × Obj)} {σ : L2.St} {H : Hp} {s : Shared} {Q : VK} {us0 : List Value} {kw : List (Str × Value)} {u : Value} {y : V} (T : XcF X.K C) (iC : PySem.W.findIn X.K (.ref C) "__init__" = some (some (.ref fI))) (tI : PySem.W.typeIn X.K (.ref fI) = some (.type "function"))
    (F : FnG X.prog X.w X.K X.mg X.base CX k fI fd ["self", "value"] (spInit X.K)) (gd : Gd X.A) (hr : Room (k + 1) X.A) (hx : Passes CX X (fun _ _ _ => False)) (I : Inv X pins σ H s)
    (hb : ∀ (s : Shared) (e : Value), X.K.In s.heap → BindsTo s fd ⟨e :: us0, kw⟩ ((["self", "value"] : List Str).zip [e, u])) (ry : RelV y u) (few : us0.length ≤ sizeLine) (h : Made H C y Q) :
    wpAny (model X.prog X.w) X.A (call (.ref C) us0 kw) (EP X pins σ Q) X.xe s := by
  obtain ⟨nm, q, N, bs, bm, sn, sub, ab, col, dd, k0, k1, k2, k3, k5, hC, hbm⟩ := T.oex.cls
  obtain ⟨hp, g, dr, tk, os⟩ := s
  have gone : H (hp.objs.size + 1) = none := I.hok.fresh (Nat.le_succ _)
  have at_ : ((hp.push (PySem.W.kdv_tup us0)).push (PySem.HandSPX.excO C hp.objs.size)).get? (hp.objs.size + 1) = some (PySem.HandSPX.excO C hp.objs.size) := by heap_get
  have I2 : Inv X pins σ (upd H (hp.objs.size + 1) (exo (hp.objs.size + 1) C none)) ⟨(hp.push (PySem.W.kdv_tup us0)).push (PySem.HandSPX.excO C hp.objs.size), g, dr, tk, os⟩ :=
    I.laid (t' := tk) (a := hp.objs.size + 1) (o := exo (hp.objs.size + 1) C none) (fun b o e => Heap.get?_push_of_some _ (Heap.get?_push_of_some _ e)) (Nat.le_succ _) (exo_ok at_)
  refine wpAny_call (call_makes PySem.F.excBase_ValueError (fun Y => PySem.HandSPX.refsVE_contains Y bm hbm) (I.kIn _ _ hC) (PySem.W.looks_findIn I.kIn iC) (fun self => PySem.W.bind_fn I.kIn self tI) few ?_)
  refine codeAny_mono (F.go _ X.stack _ _ ⟨Value.ref (hp.objs.size + 1) :: us0, kw⟩ [Value.ref (hp.objs.size + 1), u] [V.ref (hp.objs.size + 1), y] (fun v H2 => v = .non ∧ Q (.ref (hp.objs.size + 1)) H2) (fun _ _ _ => False) gd (hr.make C us0 kw) (I2.env0.make C us0 kw) (hb _ _ I2.kIn) (.cons rfl (.cons ry .nil)) ?_) ?_
  · refine ⟨_, C, y, rfl, T.oex, T.no, upd_same, fun d hd nd => ⟨rfl, ?_⟩⟩
    have hd0 : H d = none := by
      rw [upd_ne nd] at hd
      exact hd
    refine h _ d _ gone hd0 nd (fun b o e => ?_) upd_same ?_
    · rw [upd_ne (ne_of_none e gone), upd_ne (ne_of_none e hd0), upd_ne (ne_of_none e gone)]
      exact e
    · rw [upd_ne nd, upd_same]
  · intro r s' after
    cases r with
    | error e => exact hx pins σ _ _ e s' I2 after
    | ok fl =>
      cases fl with
      | ret v =>
        obtain ⟨x, H2, J, rv, ev, q2⟩ := I2.after after
        subst ev
        exact ⟨rv, ⟨.ref (hp.objs.size + 1), H2, J, rfl, q2⟩⟩
      | next => exact False.elim after
      | brk => exact False.elim after
      | cont => exact False.elim after
/-- C(value) -/
def tX1 (C : Addr) (t : TA) : TE := fun σ H Q => t σ H fun vs H1 => ∃ y, vs = [y] ∧ Made H1 C y Q
/-- C(), C(value=value): the value is y of what is handed -/
def tX0 (C : Addr) (y : V) : TE := fun _ H Q => Made H C y Q
section
variable {x : Str} {p pos : Pos} {e : Expr} {es : List Expr} {kws : List Keyword} {t tk : TA} {ks : List Str}
theorem pe_x1 {g : List Value → List Value → List Value} {gV : List V → List V → List V} (T : XcF X.K C) (iC : PySem.W.findIn X.K (.ref C) "__init__" = some (some (.ref fI))) (tI : PySem.W.typeIn X.K (.ref fI) = some (.type "function"))
    (F : FnG X.prog X.w X.K X.mg X.base CX k fI fd ["self", "value"] (spInit X.K)) (gd : Gd X.A) (hr : Room (k + 1) X.A) (hx : Passes CX X (fun _ _ _ => False)) (hg : Gl X x) (hm : X.mg x = some (.ref C))
    (hb : ∀ (s : Shared) (e u : Value), X.K.In s.heap → BindsTo s fd ⟨[e, u], []⟩ ((["self", "value"] : List Str).zip [e, u])) (ha : PA X (e :: es) t)
    (hdb : (x == ("__debug__" : Str)) = false := by decide) (he : starEach (e :: es) X.env = (false, eval e X.env) :: starEach es X.env := by rfl) (hpl : (backTo pos (starEach es X.env)).any (·.1) = false := by rfl) :
    PE X (.Call (.Name x p) (e :: es) [] pos) (tX1 C t) := by
  constructor
  intro pins s σ H Q I h
  apply wpAny_Call_Name_kw
  refine ld_glob I hg hm (PySem.W.callWith_K (h₀ := X.base) I.ok.mod.kin T.oex.kC (thn (ha.run pos pins s σ H _ I h) ?_) he hpl) hdb
  rintro us s1 ⟨vs, H1, I1, r, y, rfl, made⟩
  obtain ⟨u, rfl, ru⟩ := vals1 r
  exact ⟨I1.kIn, run_made T iC tI F gd hr hx I1 (fun s e hK => hb s e u hK) ru (by show 1 ≤ sizeLine; rw [sizeLine_eq]; decide) made⟩
theorem pe_x0 (T : XcF X.K C) (iC : PySem.W.findIn X.K (.ref C) "__init__" = some (some (.ref fI))) (tI : PySem.W.typeIn X.K (.ref fI) = some (.type "function"))
    (F : FnG X.prog X.w X.K X.mg X.base CX k fI fd ["self", "value"] (spInit X.K)) (gd : Gd X.A) (hr : Room (k + 1) X.A) (hx : Passes CX X (fun _ _ _ => False)) (hg : Gl X x) (hm : X.mg x = some (.ref C))
    (hb : ∀ (s : Shared) (e : Value), X.K.In s.heap → BindsTo s fd ⟨[e], []⟩ ((["self", "value"] : List Str).zip [e, .none])) (hall : (backToKw pos (keywordEach [] X.env)).all (·.1.isSome) = true := by rfl)
    (hdb : (x == ("__debug__" : Str)) = false := by decide) (hpl : ((backTo pos (starEach [] X.env)).any (·.1) || (backToKw pos (keywordEach [] X.env)).any (·.1.isNone)) = false := by rfl) :
    PE X (.Call (.Name x p) [] [] pos) (tX0 C .non) := by
  constructor
  intro pins s σ H Q I h
  apply wpAny_Call_Name_kw
  refine ld_glob I hg hm (PySem.W.callWith_KW0 (h₀ := X.base) I.ok.mod.kin T.oex.kC hall (thn (pk_nil.run pos pins s σ H (fun vs H1 => vs = [] ∧ H1 = H) I ⟨rfl, rfl⟩) ?_) hpl) hdb
  rintro ws s1 ⟨zs, H1, I1, rz, rfl, rfl⟩
  cases rz
  exact ⟨I1.kIn, run_made T iC tI F gd hr hx I1 (u := .none) (y := .non) (us0 := []) (kw := []) (fun s e hK => hb s e hK) rfl (Nat.zero_le _) h⟩
/-- C(value=..) -/
theorem pe_xk (T : XcF X.K C) (iC : PySem.W.findIn X.K (.ref C) "__init__" = some (some (.ref fI))) (tI : PySem.W.typeIn X.K (.ref fI) = some (.type "function"))
    (F : FnG X.prog X.w X.K X.mg X.base CX k fI fd ["self", "value"] (spInit X.K)) (gd : Gd X.A) (hr : Room (k + 1) X.A) (hx : Passes CX X (fun _ _ _ => False)) (hg : Gl X x) (hm : X.mg x = some (.ref C))
    (hb : ∀ (s : Shared) (e u : Value), X.K.In s.heap → BindsTo s fd ⟨[e], [("value", u)]⟩ ((["self", "value"] : List Str).zip [e, u])) (hkw : PK X kws tk) (hall : (backToKw pos (keywordEach kws X.env)).all (·.1.isSome) = true := by rfl)
    (hks : (backToKw pos (keywordEach kws X.env)).filterMap (·.1) = (["value"] : List Str) := by rfl)
    (hdb : (x == ("__debug__" : Str)) = false := by decide) (hpl : ((backTo pos (starEach [] X.env)).any (·.1) || (backToKw pos (keywordEach kws X.env)).any (·.1.isNone)) = false := by rfl) :
    PE X (.Call (.Name x p) [] kws pos) (tX1 C tk) := by
  constructor
  intro pins s σ H Q I h
  apply wpAny_Call_Name_kw
  refine ld_glob I hg hm (PySem.W.callWith_KW0 (h₀ := X.base) I.ok.mod.kin T.oex.kC hall (thn (hkw.run pos pins s σ H _ I h) ?_) hpl) hdb
  rintro ws s1 ⟨zs, H1, I1, rz, y, rfl, made⟩
  obtain ⟨u, rfl, ru⟩ := vals1 rz
  rw [hks]
  exact ⟨I1.kIn, run_made T iC tI F gd hr hx I1 (us0 := []) (kw := [("value", u)]) (fun s e hK => hb s e u hK) ru (Nat.zero_le _) made⟩
/-- C() of a class without own __init__ -/
theorem pe_x00 {bmB : List Value} (T : XcF X.K C) (q : PySem.W.excIn X.K C He.veBase "ValueError.__new__" = true) (hg : Gl X x) (hm : X.mg x = some (.ref C)) (hall : (backToKw pos (keywordEach [] X.env)).all (·.1.isSome) = true := by rfl)
    (hdb : (x == ("__debug__" : Str)) = false := by decide) (hpl : ((backTo pos (starEach [] X.env)).any (·.1) || (backToKw pos (keywordEach [] X.env)).any (·.1.isNone)) = false := by rfl) :
    PE X (.Call (.Name x p) [] [] pos) (fun _ H Q => ∀ a, H a = none → Q (.ref a) (upd H a (exo a C none))) := by
  constructor
  intro pins s σ H Q I h
  apply wpAny_Call_Name_kw
  refine ld_glob I hg hm (PySem.W.callWith_KW0 (h₀ := X.base) I.ok.mod.kin T.oex.kC hall (thn (pk_nil.run pos pins s σ H (fun vs H1 => vs = [] ∧ H1 = H) I ⟨rfl, rfl⟩) ?_) hpl) hdb
  rintro ws s1 ⟨zs, H1, I1, rz, rfl, rfl⟩
  cases rz
  refine ⟨I1.kIn, ?_⟩
  show wpAny _ _ (call (.ref C) []) _ _ _
  obtain ⟨bm, N, nm, qn, bs, hdct, sn, sub, ab, col, dd, k0, k1, k2, k3, k5, mN, hC, hN, hni, OT⟩ := exc_obj I1.kIn q
  refine wpAny_call_exc_subT PySem.F.excBase_ValueError OT hC hN hni (fun h' a hm => ?_) (Nat.zero_le _)
  have gone : H1 a = none := I1.hok.gone hm.new
  obtain ⟨t, at_, _, _⟩ := hm.there
  exact ⟨.ref a, upd H1 a (exo a C none), I1.laidN hm.keeps hm.new gone (exo_ok at_), rfl, h a gone⟩
end
end
end Hw

namespace Hw
open PySem PySem.Spec PyProof.Rows L2
section
variable {K : PySem.W.Frag} {x qual : Str} {params : Arguments} {body : List Stmt} {scope : Scope} {f : Addr} {fd : FuncData}
/-- what is bound by the three ways to call such an __init__ -/
structure IniB (K : PySem.W.Frag) (fd : FuncData) : Prop where
  b2 : ∀ (s : Shared) (e u : Value), K.In s.heap → BindsTo s fd ⟨[e, u], []⟩ ((["self", "value"] : List Str).zip [e, u])
  b1 : ∀ (s : Shared) (e : Value), K.In s.heap → BindsTo s fd ⟨[e], []⟩ ((["self", "value"] : List Str).zip [e, .none])
  bk : ∀ (s : Shared) (e u : Value), K.In s.heap → BindsTo s fd ⟨[e], [("value", u)]⟩ ((["self", "value"] : List Str).zip [e, u])
theorem iniB_of (F : FunD K x qual params body scope [.non] [] f fd)
    (h2 : ∀ (T : Addr) (kV doc pm : Value) (an : Option Addr) (cdv ct : Value) (e u n : Value), ∃ k, bindArgs (PySem.W.fnOf x qual params body scope (.ref T) kV doc pm an cdv ct) ⟨[e, u], []⟩ = seqItems? (.ref T) >>= k ∧ k (some #[n]) = pure ((["self", "value"] : List Str).zip [e, u]))
    (h1 : ∀ (T : Addr) (kV doc pm : Value) (an : Option Addr) (cdv ct : Value) (e n : Value), ∃ k, bindArgs (PySem.W.fnOf x qual params body scope (.ref T) kV doc pm an cdv ct) ⟨[e], []⟩ = seqItems? (.ref T) >>= k ∧ k (some #[n]) = pure ((["self", "value"] : List Str).zip [e, n]))
    (hk : ∀ (T : Addr) (kV doc pm : Value) (an : Option Addr) (cdv ct : Value) (e u n : Value), ∃ k, bindArgs (PySem.W.fnOf x qual params body scope (.ref T) kV doc pm an cdv ct) ⟨[e], [("value", u)]⟩ = seqItems? (.ref T) >>= k ∧ k (some #[n]) = pure ((["self", "value"] : List Str).zip [e, u])) : IniB K fd := by
  refine ⟨?_, ?_, ?_⟩
  · obtain ⟨its, B⟩ := F.kbindsD 2 [] (fun us _ _ => us) (by decide) (fun r _ _ => r) fun T kV doc pm an cdv ct us its ws l1 l2 l3 => match us, its, ws, l1, l2, l3 with | [e, u], [n], [], _, _, _ => h2 T kV doc pm an cdv ct e u n
    exact fun s e u hK => B.to s [e, u] [] hK rfl rfl
  · obtain ⟨its, B⟩ := F.kbindsD 1 [] (fun us its _ => us ++ its) (by decide) (fun r r' _ => r.append r') fun T kV doc pm an cdv ct us its ws l1 l2 l3 => match us, its, ws, l1, l2, l3 with | [e], [n], [], _, _, _ => h1 T kV doc pm an cdv ct e n
    intro s e hK
    have b := B.to s [e] [] hK rfl rfl
    have r := B.rel (vs := [.non]) (us := [.none]) (zs := []) (ws := []) (.cons rfl .nil) .nil
    have e1 : its = [.none] := by
      cases r with
      | cons _ r =>
        cases r with
        | cons a r =>
          cases r
          cases (show _ = Value.none from a)
          rfl
    rw [e1] at b
    exact b
  · obtain ⟨its, B⟩ := F.kbindsD 1 ["value"] (fun us _ ws => us ++ ws) (by decide) (fun r _ r' => r.append r') fun T kV doc pm an cdv ct us its ws l1 l2 l3 => match us, its, ws, l1, l2, l3 with | [e], [n], [u], _, _, _ => hk T kV doc pm an cdv ct e u n
    exact fun s e u hK => B.to s [e] [u] hK rfl rfl
end
end Hw

set_option Elab.async false
set_option linter.all false
set_option maxRecDepth 100000
set_option maxHeartbeats 4000000
namespace Hw
open PySem PySem.Spec PyProof.Rows L2
section
variable {X : Cx}
/-- x == y of data, or of a dict of one int with itself -/
def rEqS : R2 := fun x y H Q => rEqT x y H Q ∨ ∃ (a : Addr) (k : Str) (i : Int), x = .ref a ∧ y = .ref a ∧ H a = some (.dK [(.inr k, .int i)]) ∧ Q (.bl true) H
theorem op_eqS (hu : X.A.units + 64 < cLine) : OpR X (compareOp .Eq) rEqS := by
  intro pins s σ H x y v u Q I rx ry h
  rcases h with h | ⟨a, k, i, rfl, rfl, e, q⟩
  · exact op_eqT hu pins s σ H x y v u Q I rx ry h
  · cases (show v = Value.ref a from rx)
    cases (show u = Value.ref a from ry)
    obtain ⟨_, ns, vs, kv, dd⟩ := dk_of I.hok e
    cases kv with
    | @cons _ q1 _ _ h1 h2 =>
    cases h2
    obtain ⟨kk, vv⟩ := q1
    obtain ⟨e1, e2⟩ := h1
    obtain ⟨t, ht⟩ := e2
    have ht : vv = Value.int i t := ht
    subst ht
    refine PySem.W.keq_eq (r := true) ns ns dd dd (by omega) (fun _ => ?_) ?_
    · have hit := PySem.W.KeqHits.hit (A := X.A.in1) (s := s) (kb := [(kk, Value.int i t)]) (k := kk) (v := Value.int i t) (y := Value.int i t) (r := []) (by unfold valueAt; simp) (SeqAt.EqAt.int_int i t i t) .nil
      rw [show ((i == i) && true) = true by simp] at hit
      exact hit
    · exact ⟨.bl true, H, I, rfl, q⟩
/-- a short text n times -/
def rMulS : R2 := fun x y H Q => ∃ (z : Str) (n : Int), x = .str z ∧ y = .int n ∧ 0 ≤ n ∧ n ≤ 100 ∧ z.length ≤ 100 ∧ Q (.str (Txt.mul z n)) H
theorem op_mulS : OpR X (binaryOp .Mult) rMulS := by
  intro pins s σ H x y v u Q I rx ry h
  obtain ⟨z, n, rfl, rfl, n0, n1, hz, q⟩ := h
  obtain ⟨t, rfl⟩ := rx
  obtain ⟨t2, rfl⟩ := ry
  refine SB.mul ⟨?_, fun h1 _ => ?_, fun h1 _ => ?_⟩ fun t' k => ⟨.str _, H, I.tok _, ⟨_, rfl⟩, q⟩
  · simp only [Bool.or_eq_false_iff, decide_eq_false_iff_not]
    exact ⟨by omega, by omega⟩
  · have h2 : (100 : Int) ≤ (2 ^ 63 - 1) / n := Int.le_ediv_of_mul_le (by omega) (by omega)
    omega
  · have h2 : z.length * n.toNat ≤ 100 * 100 := Nat.mul_le_mul hz (by omega)
    show decide (z.length * n.toNat > sizeLine) = false
    rw [sizeLine_eq]
    exact decide_eq_false (by omega)
/-! ### lists of exceptions that were made -/
/-- x is an exception of the class at C that keeps y -/
def MX (y : V) (C : Addr) (x : V) (H : Hp) : Prop := ∃ a d, x = .ref a ∧ H a = some (exo a C (some d)) ∧ H d = some (exd d [("value", y)])
inductive MXs (y : V) (H : Hp) : List Addr → List V → Prop
  | nil : MXs y H [] []
  | cons {C : Addr} {Cs : List Addr} {x : V} {xs : List V} : MX y C x H → MXs y H Cs xs → MXs y H (C :: Cs) (x :: xs)
def ML (y : V) (Cs : List Addr) : Fi := fun x H => ∃ p xs, x = .ref p ∧ H p = some (.lst xs) ∧ MXs y H Cs xs
theorem MX.to {y : V} {C : Addr} {x : V} {H H' : Hp} (m : MX y C x H) (e : Same H H') : MX y C x H' := by
  obtain ⟨a, d, rfl, h1, h2⟩ := m
  exact ⟨a, d, rfl, e _ _ h1, e _ _ h2⟩
theorem MXs.to {y : V} {H H' : Hp} : ∀ {Cs : List Addr} {xs : List V}, MXs y H Cs xs → Same H H' → MXs y H' Cs xs
  | _, _, .nil, _ => .nil
  | _, _, .cons m r, e => .cons (m.to e) (r.to e)
theorem MXs.app {y : V} {H : Hp} : ∀ {Cs Ds : List Addr} {xs ys : List V}, MXs y H Cs xs → MXs y H Ds ys → MXs y H (Cs ++ Ds) (xs ++ ys)
  | _, _, _, _, .nil, k => k
  | _, _, _, _, .cons m r, k => .cons m (r.app k)
theorem MXs.len {y : V} {H : Hp} : ∀ {Cs : List Addr} {xs : List V}, MXs y H Cs xs → xs.length = Cs.length
  | _, _, .nil => rfl
  | _, _, .cons _ r => by rw [List.length_cons, List.length_cons, r.len]
theorem MXs.get {y : V} {H : Hp} : ∀ {Cs : List Addr} {xs : List V}, MXs y H Cs xs → ∀ (i : Nat) (x : V), xs[i]? = some x → ∃ C, Cs[i]? = some C ∧ MX y C x H
  | _, _, .nil, i, x, h => by simp at h
  | _, _, .cons m r, 0, x, h => by
    have e := Option.some.inj (show some _ = some x from h)
    subst e
    exact ⟨_, rfl, m⟩
  | _, _, .cons _ r, i + 1, x, h => r.get i x h
section
variable {y : V} {C : Addr} {Cs Ds : List Addr} {σ : L2.St} {te tf : TE} {ta : TA} {i : Nat}
theorem Ev.mx1 (h : σ[i]? = some (some y)) : Ev Tr (MX y C) (tX1 C (tCons (tVar i) tNil)) σ := fun H Q _ q => ⟨y, h, y, rfl, fun a d H' _ _ _ e h1 h2 => q _ H' e ⟨a, d, rfl, h1, h2⟩⟩
theorem Ev.mx0 : Ev Tr (MX y C) (tX0 C y) σ := fun H Q _ q => fun a d H' _ _ _ e h1 h2 => q _ H' e ⟨a, d, rfl, h1, h2⟩
theorem Eva.mnil : Eva Tr (fun xs H => MXs y H [] xs) tNil σ := fun H Q _ q => q _ H (Same.refl H) .nil
theorem Eva.mcons (h : Ev Tr (MX y C) te σ) (r : Eva Tr (fun xs H => MXs y H Cs xs) ta σ) : Eva Tr (fun xs H => MXs y H (C :: Cs) xs) (tCons te ta) σ := fun H Q s q =>
  h H _ s fun x H1 e1 p1 => r H1 _ s fun xs H2 e2 p2 => q _ H2 (e1.trans e2) (.cons (p1.to e2) p2)
theorem Ev.mlst (h : Eva Tr (fun xs H => MXs y H Cs xs) ta σ) (hn : Cs.length ≤ 1000) : Ev Tr (ML y Cs) (tLst ta) σ := fun H Q s q => h H _ s fun xs H1 e1 p1 => by
  have p1 : MXs y H1 Cs xs := p1
  refine ⟨by rw [p1.len, sizeLine_eq]; omega, fun p hp => ?_⟩
  have e2 := same_new' (o := .lst xs) hp
  exact q _ _ (e1.trans e2) ⟨p, xs, rfl, upd_same, p1.to e2⟩
theorem ML.to {x : V} {H H' : Hp} (m : ML y Cs x H) (e : Same H H') : ML y Cs x H' := by
  obtain ⟨p, xs, rfl, h1, h2⟩ := m
  exact ⟨p, xs, rfl, e _ _ h1, h2.to e⟩
theorem Ev.mvar {H0 : Hp} {S : Hp → Prop} {x : V} (h : σ[i]? = some (some x)) (m : ∀ H, S H → ML y Cs x H) : Ev S (ML y Cs) (tVar i) σ := fun H Q s q => ⟨x, h, q x H (Same.refl H) (m H s)⟩
/-- found + [..] -/
theorem mcat {x : V} {H : Hp} {Q : VK} (m : ML y Cs x H) (hx : σ[i]? = some (some x)) (h : Ev Tr (ML y Ds) te σ) (hn : Cs.length + Ds.length ≤ 1000) (q : ∀ x H', Same H H' → ML y (Cs ++ Ds) x H' → Q x H') : tOp rCat (tVar i) te σ H Q := by
  refine ⟨x, hx, h H _ trivial fun z H1 e1 mz => ?_⟩
  obtain ⟨p, xs, rfl, h1, h2⟩ := m.to e1
  obtain ⟨p', ys, rfl, k1, k2⟩ := mz
  have l1 := h2.len
  have l2 := k2.len
  refine ⟨p, p', xs, ys, rfl, rfl, h1, k1, by rw [sizeLine_eq]; omega, fun r hr => ?_⟩
  have e2 := same_new' (o := .lst (xs ++ ys)) hr
  exact q _ _ (e1.trans e2) ⟨r, _, rfl, upd_same, (h2.app k2).to e2⟩
end
end
end Hw

/-! ### the head's facts with a further check -/
namespace Hw
open PySem PySem.Spec PyProof.Rows L2
def obsX (fa : List He.Fa) (fn : List He.DefD) (chk : PySem.W.Frag → Bool) (K : PySem.W.Frag) : He.AlD := ((He.obsD fa fn K).1 && chk K, (He.obsD fa fn K).2)
def SaysX (fa : List He.Fa) (fn : List He.DefD) (chk : PySem.W.Frag → Bool) (K : PySem.W.Frag) : Prop := obsX fa fn chk K = He.valD fn
def obsXG (n : Nat) (fa : List He.Fa) (fn : List He.DefD) (chk : PySem.W.Frag → Bool) (g : Addr → Option Obj) : He.AlD := obsX fa fn chk (He.frG g (He.asD g n))
def hookX (n : Nat) (fa : List He.Fa) (fn : List He.DefD) (chk : PySem.W.Frag → Bool) : PySem.W.Hook where
  α := He.AlD
  obs := fun s => obsXG n fa fn chk s.heap.get?
  val := fun _ => He.valD fn
  says := fun _ h => ∃ K : PySem.W.Frag, K.In h ∧ SaysX fa fn chk K
  of := fun _ _ e => ⟨_, He.frG_in, e⟩
  keeps := fun _ _ _ ⟨K, hK, c⟩ k => ⟨K, PySem.W.Frag.In.keeps hK k, c⟩
theorem obsXG_eq {n : Nat} {fa : List He.Fa} {fn : List He.DefD} {chk : PySem.W.Frag → Bool} {g : Addr → Option Obj} {s : Shared} (h : ∀ a, g a = s.heap.get? a) : obsXG n fa fn chk g = (hookX n fa fn chk).obs s := by
  rw [show g = s.heap.get? from funext h]
  rfl
theorem SaysX.says {fa : List He.Fa} {fn : List He.DefD} {chk : PySem.W.Frag → Bool} {K : PySem.W.Frag} (h : SaysX fa fn chk K) : He.SaysD fa fn K ∧ chk K = true := by
  have e1 : ((He.obsD fa fn K).1 && chk K) = true := congrArg Prod.fst (show obsX fa fn chk K = He.valD fn from h)
  have e2 : (obsX fa fn chk K).2 = (He.valD fn).2 := congrArg Prod.snd (show obsX fa fn chk K = He.valD fn from h)
  obtain ⟨a, b⟩ := Bool.and_eq_true_iff.mp e1
  exact ⟨Prod.ext a e2, b⟩
end Hw

set_option Elab.async false
set_option linter.all false
set_option maxRecDepth 100000
set_option maxHeartbeats 4000000
/-! a law whose defs make lambdas: the maker's table of code objects is tracked from the law's call on -/
namespace Hw
open PySem PySem.Spec PyProof.Rows L2 LamX
section
variable {P : Program} {w : World} {K : PySem.W.Frag} {mg mb : Str → Option Value} {CX : CXT} {k : Nat} {fa a c t : Addr} {fd : FuncData} {x : Str} {sp : Sp} {st : Shared} {its : List Value} {ns : List Int}
abbrev tabO : Obj := { cls := .none, data := .fields #[] }
/-- the call over an abstract heap that tracks the table at t and (perhaps) the script -/
theorem lawT_at {H : Hp} (inK : K.In st.heap) (globals : st.heap.Ns mainGlobals mg) (blt : st.heap.Ns builtinsNs mb) (bltIs : ∀ x : Str, x ≠ "__name__" → mb x = bootBuiltins x) (noLim : st.heap.NoLimit) (noGen : st.gens = #[])
    (tab : st.heap.get? t = some tabO) (noT : K.lookup t = none) (hd : PySem.W.CodeHd st.heap c t) (main_ : ∃ (bm : Addr) (ob : Obj), mg "__builtins__" = some (.ref bm) ∧ bm ≠ builtinsNs ∧ st.heap.get? bm = some ob ∧ ob.cls = .type "module" ∧ ob.dict = some builtinsNs ∧ ob.data = .plain)
    (lst : st.heap.get? a = some { cls := .type "list", data := .seq its.toArray }) (room : Room k callerA)
    (F : ∀ base : Heap, K.In base → base.Ns mainGlobals mg → TabB base mg c t → FnG P w K mg base CX k fa fd [x] sp) (binds : ∀ (s : Shared) (u : Value), BindsTo s fd ⟨[u], []⟩ [(x, u)])
    (want : sp [.ref a] H (fun v _ => v = .bl true) fun _ _ _ => False) (noEx : ∀ e s', CX [] H st (fun _ _ _ => False) e s' → False)
    (only : ∀ b, H b = none ∨ b = t ∨ ∃ o xs, H b = some (.frz o (.lst xs))) (atT : H t = some (.tbl #[])) (held : HOk P w H st.heap) (atA : ∀ b, H b ≠ none → b = a ∨ b = t) (notK : H a ≠ none → K.lookup a = none) :
    codeAny (model P w) callerA (.call (.ref fa) ⟨[.ref a], []⟩) (fun r s' => r = .ok (.ret (.bool true)) ∧ OldK st.heap s'.heap ∧ s'.os = st.os ∧ AllBare s'.gens) st := by
  -- what is neither a list nor such a table is not tracked
  have loose : ∀ {b : Addr} {o : Obj}, st.heap.get? b = some o → (∀ vs n, o.data ≠ .seq vs n) → o.data ≠ .fields #[] → H b = none := by
    intro b o q n1 n2
    cases z : H b with
    | none => rfl
    | some u =>
      rcases atA b (by rw [z]; exact Option.some_ne_none u) with e | e
      · rw [e, lst] at q
        exact absurd (by rw [← Option.some.inj q]) (n1 its.toArray 0)
      · rw [e, tab] at q
        exact absurd (by rw [← Option.some.inj q]) n2
  have dicts : ∀ {b : Addr} {m : Str → Option Value}, st.heap.Ns b m → (hidT st.heap H).Ns b m := by
    rintro b m ⟨o, es, ep, q, d, rest⟩
    exact ⟨o, es, ep, hidT_get q (loose q (fun vs n z => by rw [d] at z; cases z) (fun z => by rw [d] at z; cases z)), d, rest⟩
  have baseK : K.In (hidT st.heap H) := by
    intro b o q
    refine hidT_get (inK b o q) ?_
    cases z : H b with
    | none => rfl
    | some u =>
      have ne : H b ≠ none := by rw [z]; exact Option.some_ne_none u
      rcases atA b ne with eb | eb
      · subst eb
        rw [notK ne] at q
        exact nomatch q
      · subst eb
        rw [noT] at q
        exact nomatch q
  have gT : mainGlobals ≠ t := fun e => by
    obtain ⟨o, es, ep, q, d, _⟩ := globals
    rw [e, tab] at q
    rw [← Option.some.inj q] at d
    exact nomatch (show Data.fields #[] = Data.dict es ep from d)
  have TB : TabB (hidT st.heap H) mg c t := by
    refine ⟨?_, ?_, gT⟩
    · obtain ⟨o, us, file, tf, flags, tg, inF, text, tt, e1, r1, r2, r3, rest⟩ := hd
      refine ⟨o, us, file, tf, flags, tg, inF, text, tt, hidT_get e1 (loose e1 (fun vs n z => by rw [r2] at z; cases z) fun z => ?_), r1, r2, r3, rest⟩
      rw [r2] at z
      have z2 : us = #[] := by injection z
      rw [z2] at r3
      simp at r3
    · obtain ⟨bm, ob, b1, b2, b3, b4, b5, b6⟩ := main_
      refine ⟨bm, ob, b1, b2, fun e => ?_, fun e => ?_, hidT_get b3 (loose b3 (fun vs n z => by rw [b6] at z; cases z) fun z => by rw [b6] at z; cases z), b4, b5, b6⟩
      · obtain ⟨o, es, ep, q, d, _⟩ := globals
        rw [e, q] at b3
        rw [← Option.some.inj b3, d] at b6
        cases b6
      · rw [e, tab] at b3
        rw [← Option.some.inj b3] at b6
        cases b6
  obtain ⟨mc, l1, l2⟩ := noLim
  have env : Env0 P w K mg (hidT st.heap H) callerA [] st H :=
    { frames := rfl, mod := { kin := baseK, glob := dicts globals, blt := ⟨mb, dicts blt, bltIs⟩, nolimit := ⟨mc, dicts l1, l2⟩ }, bs := fun b o q => of_hidT q,
      bsz := Nat.le_of_eq (hidT_size _ _), funs := trivial, frf := fun b z => (nomatch z), hok := held, bare := .of_eq noGen }
  refine codeAny_mono ((F _ baseK (dicts globals) TB).go callerA [] st H ⟨[.ref a], []⟩ [.ref a] [.ref a] _ _ rfl room env (binds st (.ref a)) (.cons rfl .nil) want) ?_
  intro r s' q
  match r, q with
  | .error e, q => exact (noEx e s' q).elim
  | .ok .next, q => exact (show False from q).elim
  | .ok .brk, q => exact (show False from q).elim
  | .ok .cont, q => exact (show False from q).elim
  | .ok (.ret u), ⟨v, H', eos, bare, un, held', rv, ev⟩ =>
    have ev' : v = .bl true := ev
    subst ev'
    cases (show u = Value.bool true from rv)
    obtain ⟨more, grown⟩ := un.tbls t #[] atT
    have tab' : s'.heap.get? t = some { cls := .none, data := .fields (#[] ++ more) } := held' t _ grown
    have keep : ∀ b o, b ≠ t → st.heap.get? b = some o → s'.heap.get? b = some o := by
      intro b o nb q
      cases z : H b with
      | none => exact un.keep b o q z (fun y => nomatch y) (fun y => nomatch y)
      | some u =>
        rcases only b with y | y | ⟨ob, xs, y⟩
        · rw [z] at y
          exact nomatch y
        · exact absurd y nb
        · have q1 := (held b _ y).1
          have q2 := (held' b _ (un.frzs b ob _ y)).1
          rw [q] at q1
          rw [Option.some.inj q1]
          exact q2
    refine ⟨rfl, ⟨fun b o q => ?_, fun b o q => ?_⟩, eos, bare⟩
    · by_cases e : b = t
      · subst e
        rw [tab] at q
        have q := Option.some.inj q
        subst q
        exact .inr (.inl ⟨(hd.tab tab).isCodeTable, rfl, #[], more, rfl, tab'⟩)
      · exact .inl (keep b o e q)
    · by_cases e : b = t
      · subst e
        exact ⟨_, tab'⟩
      · exact ⟨o, keep b o e q⟩
end
end Hw
namespace Hw
open PySem PySem.Spec PyProof.Rows L2 LamX
section
variable {P : Program} {w : World} {K : PySem.W.Frag} {mg mb : Str → Option Value} {CX : CXT} {k : Nat} {fa a c t : Addr} {fd : FuncData} {x : Str} {sp : Sp} {st : Shared} {its : List Value} {ns : List Int}
theorem lawT (inK : K.In st.heap) (globals : st.heap.Ns mainGlobals mg) (blt : st.heap.Ns builtinsNs mb) (bltIs : ∀ x : Str, x ≠ "__name__" → mb x = bootBuiltins x) (noLim : st.heap.NoLimit) (noGen : st.gens = #[])
    (tab : st.heap.get? t = some tabO) (noT : K.lookup t = none) (hd : PySem.W.CodeHd st.heap c t) (main_ : ∃ (bm : Addr) (ob : Obj), mg "__builtins__" = some (.ref bm) ∧ bm ≠ builtinsNs ∧ st.heap.get? bm = some ob ∧ ob.cls = .type "module" ∧ ob.dict = some builtinsNs ∧ ob.data = .plain)
    (lst : st.heap.get? a = some { cls := .type "list", data := .seq its.toArray }) (areInts : IntsAre its ns) (len : ns.length ≤ sizeLine) (room : Room k callerA)
    (F : ∀ base : Heap, K.In base → base.Ns mainGlobals mg → TabB base mg c t → FnG P w K mg base CX k fa fd [x] sp) (binds : ∀ (s : Shared) (u : Value), BindsTo s fd ⟨[u], []⟩ [(x, u)])
    (want : ∀ H : Hp, H t = some (.tbl #[]) → SqL K H a (ns.map V.int) → sp [.ref a] H (fun v _ => v = .bl true) fun _ _ _ => False) (noEx : ∀ H e s', CX [] H st (fun _ _ _ => False) e s' → False) :
    codeAny (model P w) callerA (.call (.ref fa) ⟨[.ref a], []⟩) (fun r s' => r = .ok (.ret (.bool true)) ∧ OldK st.heap s'.heap ∧ s'.os = st.os ∧ AllBare s'.gens) st := by
  have rel := vals_ints areInts
  have nat_ : a ≠ t := fun e => by
    rw [e, tab] at lst
    cases lst
  cases z : K.lookup a with
  | some o =>
    have q := inK a o z
    rw [lst] at q
    have eo := Option.some.inj q
    subst eo
    let H : Hp := upd (fun _ => none) t (.tbl #[])
    have at1 : H t = some (.tbl #[]) := upd_same
    have off : ∀ b, b ≠ t → H b = none := fun b hb => upd_ne hb
    have sq : SqL K H a (ns.map V.int) := Or.inr ⟨_, its.toArray, _, z, rfl, rfl, rfl, by rw [List.size_toArray, areInts.length]; exact len, rel⟩
    refine lawT_at inK globals blt bltIs noLim noGen tab noT hd main_ lst room F binds (want H at1 sq) (noEx _) (fun b => ?_) at1 (fun b u y => ?_) (fun b y => ?_) (fun y => (y (off a nat_)).elim)
    · by_cases e : b = t
      · exact .inr (.inl e)
      · exact .inl (off b e)
    · by_cases e : b = t
      · subst e
        rw [at1] at y
        rw [← Option.some.inj y]
        exact tab
      · rw [off b e] at y
        exact nomatch y
    · by_cases e : b = t
      · exact .inr e
      · exact (y (off b e)).elim
  | none =>
    let H : Hp := upd (upd (fun _ => none) t (.tbl #[])) a (.frz { cls := .type "list", data := .seq its.toArray } (.lst (ns.map V.int)))
    have at0 : H a = some (.frz { cls := .type "list", data := .seq its.toArray } (.lst (ns.map V.int))) := upd_same
    have at1 : H t = some (.tbl #[]) := (upd_ne nat_.symm).trans upd_same
    have off : ∀ b, b ≠ a → b ≠ t → H b = none := fun b h1 h2 => (upd_ne h1).trans (upd_ne h2)
    refine lawT_at inK globals blt bltIs noLim noGen tab noT hd main_ lst room F binds (want H at1 (.inl (.inr ⟨_, at0⟩))) (noEx _) (fun b => ?_) at1 (fun b u y => ?_) (fun b y => ?_) (fun _ => z)
    · by_cases e : b = a
      · subst e
        exact .inr (.inr ⟨_, _, at0⟩)
      · by_cases e2 : b = t
        · exact .inr (.inl e2)
        · exact .inl (off b e e2)
    · by_cases e : b = a
      · subst e
        rw [at0] at y
        rw [← Option.some.inj y]
        exact ⟨lst, by rw [List.length_map]; exact len, its, _, rel, lst⟩
      · by_cases e2 : b = t
        · subst e2
          rw [at1] at y
          rw [← Option.some.inj y]
          exact tab
        · rw [off b e e2] at y
          exact nomatch y
    · by_cases e : b = a
      · exact .inl e
      · by_cases e2 : b = t
        · exact .inr e2
        · exact (y (off b e e2)).elim
end
/-- a law with a table: what the head leaves, from the law's promise -/
theorem walkT {l : PySem.W.OpenLaw} {n k : Nat} {q : Program} {loose : List Str} {XP : (Str → Option Value) → Heap → Prop} {YP : World → Heap → Prop} {d : DefRec} {x : Str}
    (most : l.most = some n) (small : n ≤ sizeLine) (plain : d.params.defaults = []) (room : Room k callerA)
    (F : ∀ (w : World) (mg : Str → Option Value) (fa : Addr) (h : Heap), YP w h → h.Ns mainGlobals mg → mg d.name = some (.ref fa) →
      ∃ (K : PySem.W.Frag) (fd : FuncData) (sp : Sp) (c t : Addr), K.In h ∧ h.get? t = some tabO ∧ K.lookup t = none ∧ PySem.W.CodeHd h c t ∧ (∀ (s : Shared) (u : Value), BindsTo s fd ⟨[u], []⟩ [(x, u)]) ∧
        (∀ (H : Hp) (a : Addr) (ns : List Int), ns.length ≤ n → H t = some (.tbl #[]) → SqL K H a (ns.map V.int) → sp [.ref a] H (fun v _ => v = .bl true) fun _ _ _ => False) ∧
        ∀ base : Heap, K.In base → base.Ns mainGlobals mg → TabB base mg c t → FnG l.prog w K mg base CX0 k fa fd [x] sp) :
    PySem.W.WalkO q loose XP YP l.row.toRowW d [] (fun f vs => PySem.call f vs) := by
  apply Att.attach_callB most plain
  intro w s0 s1 mg mb fa o pm cd doc a vs ns G Y _ _ _ gl lst areInts len bits gens
  obtain ⟨K, fd, sp, c, t, inK, tab, noT, hd, binds, want, run⟩ := F w mg fa _ Y G.T.g gl
  exact lawT inK G.T.g G.T.b G.T.builtins G.T.nolimit gens tab noT hd G.T.bmain lst areInts (Nat.le_trans len small) room run binds (fun H h s => want H a ns len h s) fun _ _ _ y => y.elim
/-! ### the head's facts, a table of code objects among them -/
/-- the code object of the def x, and its table -/
def codeAt (g : Addr → Option Obj) (K : PySem.W.Frag) (x : Str) : Addr := match K.lookup (He.ga K x) with
  | some ⟨_, _, .func fd, _⟩ => (match fd.code with | .ref c => c | _ => 0)
  | _ => 0
def tabAt (g : Addr → Option Obj) (c : Addr) : Addr := match g c with
  | some ⟨_, _, .fields vs, _⟩ => (match (vs[11]? : Option Value) with | some (.ref t) => t | _ => 0)
  | _ => 0
def emptyB (o : Option Obj) : Bool := match o with
  | some ⟨.none, none, .fields vs, sl⟩ => vs.isEmpty && sl.isEmpty
  | _ => false
/-- the part of the heap that is read: all but the table -/
def partT (n : Nat) (x : Str) (g : Addr → Option Obj) : PySem.W.Frag :=
  let as := He.asD g n
  let K := He.frG g as
  He.frG g (as.filter fun b => b != tabAt g (codeAt g K x))
theorem emptyB_ok {o : Option Obj} (h : emptyB o = true) : o = some tabO := by
  unfold emptyB at h
  split at h
  · rename_i vs sl
    obtain ⟨h1, h2⟩ := Bool.and_eq_true_iff.mp h
    have e1 : vs = #[] := by simpa using h1
    have e2 : sl = #[] := by simpa using h2
    subst e1 e2
    rfl
  · cases h
def obsT (n : Nat) (x : Str) (fa : List He.Fa) (fn : List He.DefD) (chk : PySem.W.Frag → Bool) (g : Addr → Option Obj) : He.AlD × Bool :=
  let K := partT n x g
  let c := codeAt g K x
  let t := tabAt g c
  (obsX fa fn chk K, PySem.W.codeHdIn K c t && (emptyB (g t) && (K.lookup t).isNone))
def SaysT (x : Str) (fa : List He.Fa) (fn : List He.DefD) (chk : PySem.W.Frag → Bool) (h : Heap) : Prop :=
  ∃ (K : PySem.W.Frag) (c t : Addr), K.In h ∧ SaysX fa fn chk K ∧ PySem.W.codeHdIn K c t = true ∧ h.get? t = some tabO ∧ K.lookup t = none ∧ codeAt (fun _ => none) K x = c
/-- the code object of a def -/
theorem code_of {K : PySem.W.Frag} {x y : Str} {st : Stmt} {f : Addr} {fd : FuncData} {g : Addr → Option Obj} (F : DefAt K y st f fd) (e : f = He.ga K x) : fd.code = .ref (codeAt g K x) := by
  obtain ⟨oc, od, dV, kV, doc, pm, an, cdv, ct, osl, rfl, look, codeIs, -, -⟩ := F.ex
  unfold codeAt
  rw [← e, look]
  cases cdv with
  | ref c => rfl
  | _ => cases codeIs
def hookT (n : Nat) (x : Str) (fa : List He.Fa) (fn : List He.DefD) (chk : PySem.W.Frag → Bool) : PySem.W.Hook where
  α := He.AlD × Bool
  obs := fun s => obsT n x fa fn chk s.heap.get?
  val := fun _ => (He.valD fn, true)
  says := fun _ h => SaysT x fa fn chk h
  of := fun w s e => by
    have e1 : obsX fa fn chk (partT n x s.heap.get?) = He.valD fn := congrArg Prod.fst e
    have e2 : (PySem.W.codeHdIn (partT n x s.heap.get?) (codeAt s.heap.get? (partT n x s.heap.get?) x) (tabAt s.heap.get? (codeAt s.heap.get? (partT n x s.heap.get?) x)) && (emptyB (s.heap.get? (tabAt s.heap.get? (codeAt s.heap.get? (partT n x s.heap.get?) x))) &&
      ((partT n x s.heap.get?).lookup (tabAt s.heap.get? (codeAt s.heap.get? (partT n x s.heap.get?) x))).isNone)) = true := congrArg Prod.snd e
    obtain ⟨a, b⟩ := Bool.and_eq_true_iff.mp e2
    obtain ⟨b, d⟩ := Bool.and_eq_true_iff.mp b
    exact ⟨_, _, _, He.frG_in, e1, a, emptyB_ok b, Option.isNone_iff_eq_none.mp d, rfl⟩
  keeps := fun _ _ _ ⟨K, c, t, hK, h1, h2, h3, h4, h5⟩ k => ⟨K, c, t, PySem.W.Frag.In.keeps hK k, h1, h2, k _ _ h3, h4, h5⟩
theorem obsT_eq {n : Nat} {x : Str} {fa : List He.Fa} {fn : List He.DefD} {chk : PySem.W.Frag → Bool} {g : Addr → Option Obj} {s : Shared} (h : ∀ a, g a = s.heap.get? a) : obsT n x fa fn chk g = (hookT n x fa fn chk).obs s := by
  rw [show g = s.heap.get? from funext h]
  rfl
end Hw

set_option Elab.async false
set_option linter.all false
set_option maxRecDepth 100000
set_option maxHeartbeats 4000000

namespace K14
open PySem PySem.Spec PyProof.Rows L2 Hw
def topS (i : Nat) : Stmt := PySem.Challenge.pw_howeverwide_k14_whole_stands_reached.main.body.getD i (.Pass ⟨0, 0, 0, 0⟩)
abbrev s_is_whole : Stmt := topS 5
theorem sc_is_whole : FnScope ["value"] ["value"] (defScope s_is_whole) := ⟨rfl, rfl, rfl, by decide +kernel, rfl, by decide +kernel, by decide +kernel⟩
abbrev s_is_count_to : Stmt := topS 6
theorem sc_is_count_to : FnScope ["value", "most"] ["value", "most"] (defScope s_is_count_to) := ⟨rfl, rfl, rfl, by decide +kernel, rfl, by decide +kernel, by decide +kernel⟩
abbrev s_is_table_form : Stmt := topS 7
theorem sc_is_table_form : FnScope ["value", "many", "steps", "ends", "step", "end"] ["value"] (defScope s_is_table_form) := ⟨rfl, rfl, rfl, by decide +kernel, rfl, by decide +kernel, by decide +kernel⟩
abbrev s_is_step : Stmt := topS 8
theorem sc_is_step : FnScope ["value", "size", "stands", "stand"] ["value", "size", "stands"] (defScope s_is_step) := ⟨rfl, rfl, rfl, by decide +kernel, rfl, by decide +kernel, by decide +kernel⟩
abbrev s_first_rows : Stmt := topS 10
theorem sc_first_rows : FnScope ["table", "rows", "met", "at", "stand", "row", "letter", "behind"] ["table"] (defScope s_first_rows) := ⟨rfl, rfl, rfl, by decide +kernel, rfl, by decide +kernel, by decide +kernel⟩
abbrev s_check_table : Stmt := topS 12
theorem sc_check_table : FnScope ["table"] ["table"] (defScope s_check_table) := ⟨rfl, rfl, rfl, by decide +kernel, rfl, by decide +kernel, by decide +kernel⟩
abbrev s_table_ends : Stmt := topS 13
theorem sc_table_ends : FnScope ["table", "stand"] ["table", "stand"] (defScope s_table_ends) := ⟨rfl, rfl, rfl, by decide +kernel, rfl, by decide +kernel, by decide +kernel⟩
abbrev s_reached : Stmt := topS 14
theorem sc_reached : FnScope ["table"] ["table"] (defScope s_reached) := ⟨rfl, rfl, rfl, by decide +kernel, rfl, by decide +kernel, by decide +kernel⟩
abbrev s_first_taken : Stmt := topS 15
theorem sc_first_taken : FnScope ["table", "stand", "row"] ["table"] (defScope s_first_taken) := ⟨rfl, rfl, rfl, by decide +kernel, rfl, by decide +kernel, by decide +kernel⟩
abbrev s_law_hash : Stmt := topS 17
theorem sc_law_hash : FnScope ["_law_seed", "_law_index", "_law_mixed"] ["_law_seed", "_law_index"] (defScope s_law_hash) := ⟨rfl, rfl, rfl, by decide +kernel, rfl, by decide +kernel, by decide +kernel⟩
abbrev s_law_random : Stmt := topS 18
theorem sc_law_random : FnScope ["_law_generator_here", "_law_bound", "_law_drawn", "_law_turn"] ["_law_generator_here", "_law_bound"] (defScope s_law_random) := ⟨rfl, rfl, rfl, by decide +kernel, rfl, by decide +kernel, by decide +kernel⟩
abbrev s_law_cell : Stmt := topS 19
theorem sc_law_cell : FnScope ["_law_script", "_law_index"] ["_law_script", "_law_index"] (defScope s_law_cell) := ⟨rfl, rfl, rfl, by decide +kernel, rfl, by decide +kernel, by decide +kernel⟩
abbrev s_law_generator : Stmt := topS 20
theorem sc_law_generator : FnScope ["_law_script", "_law_index", "_law_seed"] ["_law_script", "_law_index"] (defScope s_law_generator) := ⟨rfl, rfl, rfl, by decide +kernel, rfl, by decide +kernel, by decide +kernel⟩
abbrev s_law_two : Stmt := topS 21
theorem sc_law_two : FnScope ["_law_many"] ["_law_many"] (defScope s_law_two) := ⟨rfl, rfl, rfl, by decide +kernel, rfl, by decide +kernel, by decide +kernel⟩
abbrev s_law_table : Stmt := topS 22
theorem sc_law_table : FnScope ["_law_generator_here", "_law_many", "_law_most", "_law_size", "_law_steps_there", "_law_stand", "_law_letter"] ["_law_generator_here", "_law_many", "_law_most"] (defScope s_law_table) := ⟨rfl, rfl, rfl, by decide +kernel, rfl, by decide +kernel, by decide +kernel⟩
abbrev s_law_rows : Stmt := topS 23
theorem sc_law_rows : FnScope ["_law_many", "_law_size", "_law_found", "_law_turn", "_law_longer", "_law_row_there", "_law_letter"] ["_law_many", "_law_size"] (defScope s_law_rows) := ⟨rfl, rfl, rfl, by decide +kernel, rfl, by decide +kernel, by decide +kernel⟩
abbrev s_law_behind : Stmt := topS 24
theorem sc_law_behind : FnScope ["_law_known", "_law_row_there", "_law_stand", "_law_letter"] ["_law_known", "_law_row_there"] (defScope s_law_behind) := ⟨rfl, rfl, rfl, by decide +kernel, rfl, by decide +kernel, by decide +kernel⟩
abbrev s_law_marked : Stmt := topS 35
theorem sc_law_marked : FnScope ["_law_told", "_law_kept_here", "_law_item"] ["_law_told"] (defScope s_law_marked) := ⟨rfl, rfl, rfl, by decide +kernel, rfl, by decide +kernel, by decide +kernel⟩
abbrev s_law_fresh : Stmt := topS 36
theorem sc_law_fresh : FnScope ["_law_call", "_law_told", "_law_due"] ["_law_call"] (defScope s_law_fresh) := ⟨rfl, rfl, rfl, by decide +kernel, rfl, by decide +kernel, by decide +kernel⟩
abbrev s_law_right : Stmt := topS 37
theorem sc_law_right : FnScope ["_law_generator_here", "_law_many", "_law_size", "_law_kept_here", "_law_due", "_law_first", "_law_length_there", "_law_row_there", "_law_stand", "_law_told", "_law_again", "_law_known", "_law_at", "_law_letter", "_law_item"] ["_law_generator_here"] (defScope s_law_right) := ⟨rfl, rfl, rfl, by decide +kernel, rfl, by decide +kernel, by decide +kernel⟩
abbrev s_law : Stmt := topS 38
theorem sc_law : FnScope ["_law_script", "_law_index", "_law_line", "_law_less", "_law_at"] ["_law_script"] (defScope s_law) := ⟨rfl, rfl, rfl, by decide +kernel, rfl, by decide +kernel, by decide +kernel⟩
/-- what the top has written -/
structure Tx (K : PySem.W.Frag) (mg : Str → Option Value) where
  a_is_whole : Addr
  d_is_whole : FuncData
  F_is_whole : DefAt K "is_whole" s_is_whole a_is_whole d_is_whole
  g_is_whole : mg "is_whole" = some (.ref a_is_whole)
  a_is_count_to : Addr
  d_is_count_to : FuncData
  F_is_count_to : DefAt K "is_count_to" s_is_count_to a_is_count_to d_is_count_to
  g_is_count_to : mg "is_count_to" = some (.ref a_is_count_to)
  a_is_table_form : Addr
  d_is_table_form : FuncData
  F_is_table_form : DefAt K "is_table_form" s_is_table_form a_is_table_form d_is_table_form
  g_is_table_form : mg "is_table_form" = some (.ref a_is_table_form)
  a_is_step : Addr
  d_is_step : FuncData
  F_is_step : DefAt K "is_step" s_is_step a_is_step d_is_step
  g_is_step : mg "is_step" = some (.ref a_is_step)
  a_first_rows : Addr
  d_first_rows : FuncData
  F_first_rows : DefAt K "first_rows" s_first_rows a_first_rows d_first_rows
  g_first_rows : mg "first_rows" = some (.ref a_first_rows)
  a_check_table : Addr
  d_check_table : FuncData
  F_check_table : DefAt K "check_table" s_check_table a_check_table d_check_table
  g_check_table : mg "check_table" = some (.ref a_check_table)
  a_table_ends : Addr
  d_table_ends : FuncData
  F_table_ends : DefAt K "table_ends" s_table_ends a_table_ends d_table_ends
  g_table_ends : mg "table_ends" = some (.ref a_table_ends)
  a_reached : Addr
  d_reached : FuncData
  F_reached : DefAt K "reached" s_reached a_reached d_reached
  g_reached : mg "reached" = some (.ref a_reached)
  a_first_taken : Addr
  d_first_taken : FuncData
  F_first_taken : DefAt K "first_taken" s_first_taken a_first_taken d_first_taken
  g_first_taken : mg "first_taken" = some (.ref a_first_taken)
  a_law_hash : Addr
  d_law_hash : FuncData
  F_law_hash : DefAt K "_law_hash" s_law_hash a_law_hash d_law_hash
  g_law_hash : mg "_law_hash" = some (.ref a_law_hash)
  a_law_random : Addr
  d_law_random : FuncData
  F_law_random : DefAt K "_law_random" s_law_random a_law_random d_law_random
  g_law_random : mg "_law_random" = some (.ref a_law_random)
  a_law_cell : Addr
  d_law_cell : FuncData
  F_law_cell : DefAt K "_law_cell" s_law_cell a_law_cell d_law_cell
  g_law_cell : mg "_law_cell" = some (.ref a_law_cell)
  a_law_generator : Addr
  d_law_generator : FuncData
  F_law_generator : DefAt K "_law_generator" s_law_generator a_law_generator d_law_generator
  g_law_generator : mg "_law_generator" = some (.ref a_law_generator)
  a_law_two : Addr
  d_law_two : FuncData
  F_law_two : DefAt K "_law_two" s_law_two a_law_two d_law_two
  g_law_two : mg "_law_two" = some (.ref a_law_two)
  a_law_table : Addr
  d_law_table : FuncData
  F_law_table : DefAt K "_law_table" s_law_table a_law_table d_law_table
  g_law_table : mg "_law_table" = some (.ref a_law_table)
  a_law_rows : Addr
  d_law_rows : FuncData
  F_law_rows : DefAt K "_law_rows" s_law_rows a_law_rows d_law_rows
  g_law_rows : mg "_law_rows" = some (.ref a_law_rows)
  a_law_behind : Addr
  d_law_behind : FuncData
  F_law_behind : DefAt K "_law_behind" s_law_behind a_law_behind d_law_behind
  g_law_behind : mg "_law_behind" = some (.ref a_law_behind)
  a_law_marked : Addr
  d_law_marked : FuncData
  F_law_marked : DefAt K "_law_marked" s_law_marked a_law_marked d_law_marked
  g_law_marked : mg "_law_marked" = some (.ref a_law_marked)
  a_law_fresh : Addr
  d_law_fresh : FuncData
  F_law_fresh : DefAt K "_law_fresh" s_law_fresh a_law_fresh d_law_fresh
  g_law_fresh : mg "_law_fresh" = some (.ref a_law_fresh)
  a_law_right : Addr
  d_law_right : FuncData
  F_law_right : DefAt K "_law_right" s_law_right a_law_right d_law_right
  g_law_right : mg "_law_right" = some (.ref a_law_right)
  a_law : Addr
  d_law : FuncData
  F_law : DefAt K "law" s_law a_law d_law
  g_law : mg "law" = some (.ref a_law)
  z_all : mg "all" = none
  z_bool : mg "bool" = none
  z_enumerate : mg "enumerate" = none
  z_int : mg "int" = none
  z_isinstance : mg "isinstance" = none
  z_len : mg "len" = none
  z_list : mg "list" = none
  z_max : mg "max" = none
  z_min : mg "min" = none
  z_range : mg "range" = none
  z_repr : mg "repr" = none
  z_sum : mg "sum" = none
  z_tuple : mg "tuple" = none
  c_MOST_NAMES : ∃ u, mg "MOST_NAMES" = some u ∧ RelV (.int 6) u
section
variable {K : PySem.W.Frag} {mg : Str → Option Value}
theorem Tx.b_is_whole (T : Tx K mg) : Binds K T.d_is_whole ["value"] [] := T.F_is_whole.bindsN fun _ _ _ _ _ _ us hl => match us, hl with | [_], _ => rfl
theorem Tx.b_is_count_to (T : Tx K mg) : Binds K T.d_is_count_to ["value", "most"] [] := T.F_is_count_to.bindsN fun _ _ _ _ _ _ us hl => match us, hl with | [_, _], _ => rfl
theorem Tx.b_is_table_form (T : Tx K mg) : Binds K T.d_is_table_form ["value"] [] := T.F_is_table_form.bindsN fun _ _ _ _ _ _ us hl => match us, hl with | [_], _ => rfl
theorem Tx.b_is_step (T : Tx K mg) : Binds K T.d_is_step ["value", "size", "stands"] [] := T.F_is_step.bindsN fun _ _ _ _ _ _ us hl => match us, hl with | [_, _, _], _ => rfl
theorem Tx.b_first_rows (T : Tx K mg) : Binds K T.d_first_rows ["table"] [] := T.F_first_rows.bindsN fun _ _ _ _ _ _ us hl => match us, hl with | [_], _ => rfl
theorem Tx.b_check_table (T : Tx K mg) : Binds K T.d_check_table ["table"] [] := T.F_check_table.bindsN fun _ _ _ _ _ _ us hl => match us, hl with | [_], _ => rfl
theorem Tx.b_table_ends (T : Tx K mg) : Binds K T.d_table_ends ["table", "stand"] [] := T.F_table_ends.bindsN fun _ _ _ _ _ _ us hl => match us, hl with | [_, _], _ => rfl
theorem Tx.b_reached (T : Tx K mg) : Binds K T.d_reached ["table"] [] := T.F_reached.bindsN fun _ _ _ _ _ _ us hl => match us, hl with | [_], _ => rfl
theorem Tx.b_first_taken (T : Tx K mg) : Binds K T.d_first_taken ["table"] [] := T.F_first_taken.bindsN fun _ _ _ _ _ _ us hl => match us, hl with | [_], _ => rfl
theorem Tx.b_law_hash (T : Tx K mg) : Binds K T.d_law_hash ["_law_seed", "_law_index"] [] := T.F_law_hash.bindsN fun _ _ _ _ _ _ us hl => match us, hl with | [_, _], _ => rfl
theorem Tx.b_law_random (T : Tx K mg) : Binds K T.d_law_random ["_law_generator_here", "_law_bound"] [] := T.F_law_random.bindsN fun _ _ _ _ _ _ us hl => match us, hl with | [_, _], _ => rfl
theorem Tx.b_law_cell (T : Tx K mg) : Binds K T.d_law_cell ["_law_script", "_law_index"] [] := T.F_law_cell.bindsN fun _ _ _ _ _ _ us hl => match us, hl with | [_, _], _ => rfl
theorem Tx.b_law_generator (T : Tx K mg) : Binds K T.d_law_generator ["_law_script", "_law_index"] [] := T.F_law_generator.bindsN fun _ _ _ _ _ _ us hl => match us, hl with | [_, _], _ => rfl
theorem Tx.b_law_two (T : Tx K mg) : Binds K T.d_law_two ["_law_many"] [] := T.F_law_two.bindsN fun _ _ _ _ _ _ us hl => match us, hl with | [_], _ => rfl
theorem Tx.b_law_table (T : Tx K mg) : Binds K T.d_law_table ["_law_generator_here", "_law_many", "_law_most"] [] := T.F_law_table.bindsN fun _ _ _ _ _ _ us hl => match us, hl with | [_, _, _], _ => rfl
theorem Tx.b_law_rows (T : Tx K mg) : Binds K T.d_law_rows ["_law_many", "_law_size"] [] := T.F_law_rows.bindsN fun _ _ _ _ _ _ us hl => match us, hl with | [_, _], _ => rfl
theorem Tx.b_law_behind (T : Tx K mg) : Binds K T.d_law_behind ["_law_known", "_law_row_there"] [] := T.F_law_behind.bindsN fun _ _ _ _ _ _ us hl => match us, hl with | [_, _], _ => rfl
theorem Tx.b_law_marked (T : Tx K mg) : Binds K T.d_law_marked ["_law_told"] [] := T.F_law_marked.bindsN fun _ _ _ _ _ _ us hl => match us, hl with | [_], _ => rfl
theorem Tx.b_law_fresh (T : Tx K mg) : Binds K T.d_law_fresh ["_law_call"] [] := T.F_law_fresh.bindsN fun _ _ _ _ _ _ us hl => match us, hl with | [_], _ => rfl
theorem Tx.b_law_right (T : Tx K mg) : Binds K T.d_law_right ["_law_generator_here"] [] := T.F_law_right.bindsN fun _ _ _ _ _ _ us hl => match us, hl with | [_], _ => rfl
theorem Tx.b_law (T : Tx K mg) : Binds K T.d_law ["_law_script"] [] := T.F_law.bindsN fun _ _ _ _ _ _ us hl => match us, hl with | [_], _ => rfl
end

/-! ### the law's own random numbers -/
section
variable {P : Program} {w : World} {K : PySem.W.Frag} {mg : Str → Option Value} {base : Heap}
/-- the seed is a rest by 2147483647, the index not far -/
def spHash : Sp := fun vs H Q _ => ∃ a b : Int, vs = [.int a, .int b] ∧ 0 ≤ a ∧ a < 2147483648 ∧ 0 ≤ b ∧ b < 4294967296 ∧ ∀ r : Int, 0 ≤ r → r < 2147483647 → Q (.int r) H
theorem nlt {i : Int} {n : Nat} (h0 : 0 ≤ i) (h : i < 2 ^ n) : i.natAbs < 2 ^ n := by
  have e : ((2 ^ n : Nat) : Int) = (2 : Int) ^ n := by rw [Int.natCast_pow]; rfl
  omega
theorem ok_law_hash (T : Tx K mg) : FnG P w K mg base CX0 1 T.a_law_hash T.d_law_hash ["_law_seed", "_law_index"] spHash := by
  refine bodyG0 T.F_law_hash sc_law_hash (fun vs H Q E h => ?_) (fun cdv A outer s H vs Q E gd hr h => ?_)
  · obtain ⟨a, b, rfl, _⟩ := h; rfl
  · obtain ⟨a, b, rfl, a0, a1, b0, b1, q⟩ := h
    refine ⟨_, (pss_cons (ps_set (i := 2) sc_law_hash.nd rfl (Or.inl rfl) (pe_op op_mod (pe_callTy call_int1 (by rfl) T.z_int (by decide +kernel) (pa_cons (pe_op op_add (pe_op op_add (pe_op op_add (pe_op op_mulX (pv 0) pe_int) (pe_op op_mulX (pe_op op_mulX pe_int (pv 1)) (pv 1))) (pe_op op_mulX pe_int (pv 1))) pe_int) pa_nil)) pe_int))
      (pss_cons (ps_set (i := 2) sc_law_hash.nd rfl (Or.inl rfl) (pe_op op_mod (pe_callTy call_int1 (by rfl) T.z_int (by decide +kernel) (pa_cons (pe_op op_add (pe_op op_add (pe_op op_mulX (pv 2) (pv 2)) (pe_op op_mulX pe_int (pv 1))) pe_int) pa_nil)) pe_int))
      (pss_one (ps_ret (pe_op op_mod (pe_callTy call_int1 (by rfl) T.z_int (by decide +kernel) (pa_cons (pe_op op_mulX (pv 2) pe_int) pa_nil)) pe_int))))), ?_⟩
    have ha : a.natAbs < 2 ^ 31 := nlt a0 a1
    have hb : b.natAbs < 2 ^ 32 := nlt b0 b1
    refine ⟨_, rfl, _, _, rfl, rfl, mulx_ok ha (b := 31) (by decide) (by decide), _, rfl, _, _, rfl, rfl, mulx_ok (a := 31) (by decide) hb (by decide), _, rfl, _, _, rfl, rfl, mulx_ok (wide_lt (a := 31) (by decide) hb) hb (by decide), _, _, rfl, rfl, _, rfl, _, _, rfl, rfl, mulx_ok (a := 31) (by decide) hb (by decide), _, _, rfl, rfl, _, _, rfl, rfl, .inl ⟨_, rfl, _, _, rfl, rfl, (by decide : (0 : Int) < 2147483629), ?_⟩⟩
    dsimp only
    generalize (a * 1140671 + 27644437 * b * b + 131 * b + 19) = x1
    have x0 := Int.emod_nonneg x1 (by decide : (2147483629 : Int) ≠ 0)
    have x2 := Int.emod_lt_of_pos x1 (by decide : (0 : Int) < 2147483629)
    generalize x1 % 2147483629 = x at x0 x2
    have hx : x.natAbs < 2 ^ 31 := nlt x0 (by omega)
    refine ⟨_, rfl, _, rfl, _, _, rfl, rfl, mulx_ok hx hx (by decide), _, rfl, _, _, rfl, rfl, mulx_ok (a := 31) (by decide) hb (by decide), _, _, rfl, rfl, _, _, rfl, rfl, .inl ⟨_, rfl, _, _, rfl, rfl, (by decide : (0 : Int) < 2147483587), ?_⟩⟩
    dsimp only
    generalize (x * x + 62089 * b + 32416187) = y1
    have y0 := Int.emod_nonneg y1 (by decide : (2147483587 : Int) ≠ 0)
    have y2 := Int.emod_lt_of_pos y1 (by decide : (0 : Int) < 2147483587)
    generalize y1 % 2147483587 = y at y0 y2
    have hy : y.natAbs < 2 ^ 31 := nlt y0 (by omega)
    refine ⟨_, rfl, _, _, rfl, rfl, mulx_ok hy (b := 31) (by decide) (by decide), .inl ⟨_, rfl, _, _, rfl, rfl, (by decide : (0 : Int) < 2147483647), ?_⟩⟩
    exact q _ (Int.emod_nonneg _ (by decide)) (Int.emod_lt_of_pos _ (by decide))

/-- the generator: what is left of a great seed, the seed's rest, the index -/
structure GenOk (s t c m : Int) : Prop where
  s0 : 0 ≤ s
  s1 : s < 2 ^ 2000
  t0 : 0 ≤ t
  t1 : t < 2147483648
  c0 : 0 ≤ c
  c1 : c ≤ m
def genL (s t c : Int) : HO := .lst [.int s, .int t, .int c]
/-- a draw below a bound: the generator's list at a is another one; the index grows by a hundred at most -/
def spRandom : Sp := fun vs H Q _ => ∃ (a : Addr) (b s t c m : Int), vs = [.ref a, .int b] ∧ H a = some (genL s t c) ∧ GenOk s t c m ∧ m + 100 < 4294967296 ∧ 0 < b ∧ b < 2 ^ 2000 ∧
  ∀ (r s' c' : Int), 0 ≤ r → r < b → GenOk s' t c' (m + 100) → Q (.int r) (upd H a (genL s' t c'))
theorem bits_le_of {b : Int} {n : Nat} (h0 : 0 ≤ b) (h : b < 2 ^ n) : Builtin.Int.intBits b ≤ n := PyProof.Rows.intBits_le (nlt h0 h)
theorem ok_law_random (T : Tx K mg) : FnG P w K mg base CX0 2 T.a_law_random T.d_law_random ["_law_generator_here", "_law_bound"] spRandom := by
  have G_law_hash := ok_law_hash (P := P) (w := w) (base := base) T
  refine bodyG0 T.F_law_random sc_law_random (fun vs H Q E h => ?_) (fun cdv A outer s H vs Q E gd hr h => ?_)
  · obtain ⟨a, b, s, t, c, m, rfl, _⟩ := h; rfl
  · obtain ⟨a, b, s, t, c, m, rfl, hg, ok, hm, b0, b1, q⟩ := h
    obtain ⟨s0, s1, t0, t1, c0, c1⟩ := ok
    have sq : SqL K H a [.int s, .int t, .int c] := .inl (.inl hg)
    refine ⟨_, (pss_cons (ps_if (pt_cmpR op_gt (pe_ix (ix_listK (K := K) rfl) (pv 0) pe_int (fun _ _ => rfl)) pe_int (nomark _)) (pss_cons (ps_set (i := 2) sc_law_random.nd rfl (Or.inl rfl) (pe_op op_mod (pe_callTy call_int1 (by rfl) T.z_int (by decide +kernel) (pa_cons (pe_ix (ix_listK (K := K) rfl) (pv 0) pe_int (fun _ _ => rfl)) pa_nil)) (pv 1)))
      (pss_cons (ps_asg (pe_op op_fdivW (pe_ix (ix_listK (K := K) rfl) (pv 0) pe_int (fun _ _ => rfl)) (pv 1)) (pg_sub (pv 0) pe_int set_list))
      (pss_one (ps_ret (pv 2))))) pss_nil)
      (pss_cons (ps_set (i := 2) sc_law_random.nd rfl (Or.inl rfl) pe_int)
      (pss_cons (ps_for PassesOwn.never rfl (pi_range1 (by rfl) T.z_range (pa_cons (pe_op op_add pe_int (pe_op op_fdivW (pe_bits (pv 1)) pe_int)) pa_nil)) (pg_name (i := 3) sc_law_random.nd rfl (Or.inl rfl)) (pss_cons (ps_asg (pe_op op_add (pe_ix (ix_listK (K := K) rfl) (pv 0) pe_int (fun _ _ => rfl)) pe_int) (pg_sub (pv 0) pe_int set_list))
      (pss_one (ps_set (i := 2) sc_law_random.nd rfl (Or.inl rfl) (pe_op op_add (pe_op op_mulX (pv 2) pe_int) (pe_g G_law_hash gd (hr.mono (by decide)) (by rfl) T.g_law_hash T.F_law_hash.kp T.b_law_hash .nil pass0 (pa_cons (pe_ix (ix_listK (K := K) rfl) (pv 0) pe_int (fun _ _ => rfl)) (pa_cons (pe_ix (ix_listK (K := K) rfl) (pv 0) pe_int (fun _ _ => rfl)) pa_nil))))))))
      (pss_one (ps_ret (pe_op op_mod (pe_callTy call_int1 (by rfl) T.z_int (by decide +kernel) (pa_cons (pv 2) pa_nil)) (pv 1))))))), ?_⟩
    refine ⟨_, rfl, _, _, _, _, rfl, rfl, sq, atI_nat (j := 0) rfl, _, _, rfl, rfl, _, rfl, ?_⟩
    by_cases hs : 0 < s
    · rw [decide_eq_true hs]
      refine iteT ⟨_, rfl, _, _, _, _, rfl, rfl, sq, atI_nat (j := 0) rfl, .inl ⟨_, rfl, _, rfl, _, _, rfl, rfl, b0, ?_⟩⟩
      refine ⟨_, rfl, _, _, _, _, rfl, rfl, sq, atI_nat (j := 0) rfl, _, rfl, _, _, rfl, rfl, wide_div b0 (nlt (Int.le_of_lt b0) b1) (by decide) (by decide), ?_⟩
      refine ⟨_, rfl, a, _, _, 0, rfl, rfl, hg, rfl, ?_⟩
      refine ⟨_, rfl, ?_⟩
      have d0 := Int.ediv_nonneg s0 (Int.le_of_lt b0)
      have d1 : s / b ≤ s := Int.ediv_le_self b s0
      exact q _ _ _ (Int.emod_nonneg _ (by omega)) (Int.emod_lt_of_pos _ b0) ⟨d0, by omega, t0, t1, c0, by omega⟩
    · rw [decide_eq_false hs]
      refine iteF ?_
      have hbits := bits_le_of (Int.le_of_lt b0) b1
      have hq : ((1 : Int) + (Builtin.Int.intBits b : Nat) / 30) = ((1 + Builtin.Int.intBits b / 30 : Nat) : Int) := by rw [Int.natCast_add, Int.natCast_ediv]; rfl
      refine ⟨_, rfl, b, rfl, _, _, rfl, rfl, wide_div (b := 5) (by decide) (by decide) (by decide) (by decide), _, _, rfl, rfl, ((1 + Builtin.Int.intBits b / 30 : Nat) : Int), by rw [← hq], by omega, by omega, ?_⟩
      refine for_range (n := 1 + Builtin.Int.intBits b / 30) (fun i σ H' => ∃ (d : Int) (y : Option V), σ = [some (.ref a), some (.int b), some (.int d), y] ∧ H' = upd H a (genL s t (c + i)) ∧ 0 ≤ d ∧ d < 2 ^ (31 * i)) ⟨0, none, rfl, ?_, by decide, by decide⟩ ?_ ?_
      · rw [show c + ((0 : Nat) : Int) = c by omega]
        funext x
        unfold upd
        by_cases hx : x = a
        · rw [if_pos hx, hx, hg]
        · rw [if_neg hx]
      · rintro i σ H' hi ⟨d, y, rfl, rfl, d0, d1⟩
        have up : (upd H a (genL s t (c + i))) a = some (genL s t (c + i)) := upd_same
        have sq1 : SqL K (upd H a (genL s t (c + i))) a [.int s, .int t, .int (c + i)] := .inl (.inl up)
        refine ⟨_, rfl, _, _, _, _, rfl, rfl, sq1, atI_nat (j := 2) rfl, _, _, rfl, rfl, _, rfl, a, _, _, 2, rfl, rfl, up, rfl, ?_⟩
        have up2 : (upd (upd H a (genL s t (c + i))) a (.lst ([V.int s, .int t, .int (c + i)].set 2 (.int (c + i + 1))))) a = some (genL s t (c + i + 1)) := upd_same
        have sq2 : SqL K (upd (upd H a (genL s t (c + i))) a (.lst ([V.int s, .int t, .int (c + i)].set 2 (.int (c + i + 1))))) a [.int s, .int t, .int (c + i + 1)] := .inl (.inl up2)
        refine ⟨_, rfl, _, _, rfl, rfl, mulx_ok (nlt d0 d1) (b := 31) (by decide) (by omega), ?_⟩
        refine ⟨_, rfl, _, _, _, _, rfl, rfl, sq2, atI_nat (j := 1) rfl, _, rfl, _, _, _, _, rfl, rfl, sq2, atI_nat (j := 2) rfl, _, _, rfl, t0, t1, by omega, by omega, fun r r0 r1 => ⟨_, _, rfl, rfl, ?_⟩⟩
        refine ⟨d * 2147483587 + r, _, rfl, ?_, by omega, ?_⟩
        · rw [show c + ((i + 1 : Nat) : Int) = c + i + 1 by omega]
          exact upd_upd
        · have e : (2 : Int) ^ (31 * (i + 1)) = 2 ^ (31 * i) * 2147483648 := by
            rw [Nat.mul_add, Int.pow_add]; rfl
          have p : (1 : Int) ≤ 2 ^ (31 * i) := Int.pow_pos (by decide)
          rw [e]
          generalize (2 : Int) ^ (31 * i) = B at d1 p
          omega
      · rintro σ H' ⟨d, y, rfl, rfl, d0, d1⟩
        refine ⟨_, rfl, .inl ⟨_, rfl, _, rfl, _, _, rfl, rfl, b0, ?_⟩⟩
        exact q _ _ _ (Int.emod_nonneg _ (by omega)) (Int.emod_lt_of_pos _ b0) ⟨s0, s1, t0, t1, by omega, by omega⟩

theorem same_new {H : Hp} {p : Addr} {o : HO} (h : H p = none) : Same H (upd H p o) := fun b x e => by
  rw [upd_ne (ne_of_none e h)]
  exact e
theorem cut_first {α : Type} (f : α → V) (xs : List α) : cutV (xs.map f) none (some 1) = (xs.take 1).map f := by
  unfold cutV
  rw [HT.sIx_none, show HT.sIx (xs.map f).length (xs.map f).length (some 1) = min 1 (xs.map f).length from HT.sIx_nat _ _ 1]
  cases xs with
  | nil => rfl
  | cons x r =>
    rw [show min 1 ((x :: r).map f).length = 1 by rw [List.length_map, List.length_cons]; omega]
    rfl
def spCell (K : PySem.W.Frag) : Sp := fun vs H Q _ => ∃ (a : Addr) (ns : List Int) (j : Nat), vs = [.ref a, .int j] ∧ SqL K H a (ns.map V.int) ∧ ∀ (r : Int) (H' : Hp), Same H H' → Q (.int r) H'
theorem ok_law_cell (T : Tx K mg) : FnG P w K mg base CX0 1 T.a_law_cell T.d_law_cell ["_law_script", "_law_index"] (spCell K) := by
  refine bodyG0 T.F_law_cell sc_law_cell (fun vs H Q E h => ?_) (fun cdv A outer s H vs Q E gd hr h => ?_)
  · obtain ⟨a, ns, j, rfl, _⟩ := h; rfl
  · obtain ⟨a, ns, j, rfl, hS, q⟩ := h
    refine ⟨_, (pss_cons (ps_if (pt_cmpR op_lt (pv 1) (pe_callB (call_lenK (K := K) rfl) (by rfl) T.z_len (by decide +kernel) (pa_cons (pv 0) pa_nil)) (nomark _)) (pss_one (ps_ret (pe_ix (ix_listK (K := K) rfl) (pv 0) (pv 1) (fun _ _ => rfl)))) pss_nil)
      (pss_one (ps_ret (pe_op op_mod (pe_callB (cr_sumK (K := K) rfl rfl) (by rfl) T.z_sum (by decide +kernel) (pa_cons (pe_slice (sl_listK (K := K) rfl) (pv 0) po_none (po_some pe_int)) pa_nil)) pe_int)))), ?_⟩
    refine ⟨_, rfl, _, rfl, a, _, rfl, .inl hS, _, _, rfl, rfl, _, rfl, ?_⟩
    by_cases hj : ((j : Nat) : Int) < ((ns.map V.int).length : Nat)
    · rw [decide_eq_true hj]
      have hj2 : j < ns.length := by rw [List.length_map] at hj; omega
      refine iteT ⟨_, rfl, _, rfl, _, _, _, _, rfl, rfl, hS, atI_nat (j := j) (v := .int (ns[j])) ?_, q _ _ (Same.refl H)⟩
      rw [List.getElem?_map, List.getElem?_eq_getElem hj2]
      rfl
    · rw [decide_eq_false hj]
      refine iteF ⟨_, rfl, 1, rfl, a, _, rfl, hS, fun p hp => ?_⟩
      refine ⟨p, ns.take 1, rfl, .inl (.inl ?_), _, _, rfl, rfl, (by decide : (0 : Int) < 1000003), q _ _ (same_new hp)⟩
      rw [upd_same, cut_first]
def spGenerator (K : PySem.W.Frag) : Sp := fun vs H Q _ => ∃ (a : Addr) (ns : List Int) (j : Nat), vs = [.ref a, .int j] ∧ j ≤ 1000 ∧ SqL K H a (ns.map V.int) ∧
  ∀ (g : Addr) (H' : Hp) (s t c : Int), Same H H' → H g = none → H' g = some (genL s t c) → GenOk s t c (1000 * j) → Q (.ref g) H'
theorem ok_law_generator (T : Tx K mg) : FnG P w K mg base CX0 2 T.a_law_generator T.d_law_generator ["_law_script", "_law_index"] (spGenerator K) := by
  have G_law_cell := ok_law_cell (P := P) (w := w) (base := base) T
  refine bodyG0 T.F_law_generator sc_law_generator (fun vs H Q E h => ?_) (fun cdv A outer s H vs Q E gd hr h => ?_)
  · obtain ⟨a, ns, j, rfl, _⟩ := h; rfl
  · obtain ⟨a, ns, j, rfl, hj, hS, q⟩ := h
    refine ⟨_, (pss_cons (ps_set (i := 2) sc_law_generator.nd rfl (Or.inl rfl) (pe_g G_law_cell gd (hr.mono (by decide)) (by rfl) T.g_law_cell T.F_law_cell.kp T.b_law_cell .nil pass0 (pa_cons (pv 0) (pa_cons (pv 1) pa_nil))))
      (pss_one (ps_ret (pe_lst (pa_cons (pe_op op_mod (pe_callTy call_int1 (by rfl) T.z_int (by decide +kernel) (pa_cons (pe_callB (call_max2 rfl) (by rfl) T.z_max (by decide +kernel) (pa_cons (pe_op op_sub (pv 2) (pe_op op_powW pe_int pe_int)) (pa_cons pe_int pa_nil))) pa_nil)) (pe_op op_powW (pe_op op_powW pe_int pe_int) pe_int)) (pa_cons (pe_op op_mod (pe_callTy call_int1 (by rfl) T.z_int (by decide +kernel) (pa_cons (pv 2) pa_nil)) pe_int) (pa_cons (pe_op op_mulX pe_int (pv 1)) pa_nil))))))), ?_⟩
    refine ⟨_, rfl, _, rfl, a, ns, j, rfl, hS, fun r H' sm => ?_⟩
    have e10 : ((10 : Int) ^ 60).natAbs < 2 ^ 200 := by decide +kernel
    refine ⟨_, rfl, _, _, rfl, rfl, powW_ok (n := 4) (j := 18) (by decide) (by decide), _, _, rfl, rfl, _, _, rfl, .inl ⟨_, rfl, ?_⟩⟩
    refine ⟨_, _, rfl, rfl, powW_ok (n := 4) (j := 60) (by decide) (by decide), _, _, rfl, rfl, powW_ok (n := 200) (j := 10) e10 (by decide), _, _, rfl, rfl, (by decide +kernel : (0 : Int) < (10 ^ 60) ^ 10), ?_⟩
    refine ⟨_, rfl, .inl ⟨_, rfl, _, _, rfl, rfl, (by decide : (0 : Int) < 2147483647), ?_⟩⟩
    refine ⟨_, rfl, _, _, rfl, rfl, mulx_ok (a := 10) (b := 10) (by decide) (by omega) (by decide), by show 3 ≤ sizeLine; rw [sizeLine_eq]; decide, fun g hg => ?_⟩
    have big : ((10 : Int) ^ 60) ^ 10 < 2 ^ 2000 := by decide +kernel
    have m1 := Int.emod_lt_of_pos (if r - 10 ^ 18 < 0 then 0 else r - 10 ^ 18) (by decide +kernel : (0 : Int) < (10 ^ 60) ^ 10)
    refine q g _ _ _ _ (sm.trans (same_new hg)) (sm.free hg) upd_same ⟨Int.emod_nonneg _ (by decide +kernel), Int.lt_trans (Int.emod_lt_of_pos _ (by decide +kernel)) big, Int.emod_nonneg _ (by decide), Int.lt_trans (Int.emod_lt_of_pos _ (by decide)) (by decide), by omega, by omega⟩
end

end K14

set_option Elab.async false
set_option linter.all false
set_option maxRecDepth 100000
set_option maxHeartbeats 4000000
namespace K14
open PySem PySem.Spec PyProof.Rows L2 Hw

section
variable {P : Program} {w : World} {K : PySem.W.Frag} {mg : Str → Option Value} {base : Heap}
/-- a def's body, told for any frames around -/
theorem bodyU0 {x : Str} {st : Stmt} {f : Addr} {fd : FuncData} {N ps : List Str} {k : Nat} {sp : Sp}
    (F : DefAt K x st f fd) (S : FnScope N ps (defScope st)) (ar : ∀ vs H Q E, sp vs H Q E → vs.length = ps.length)
    (hb : ∀ (cdv : Value) (A : Around) (outer : List Env) (s : Shared) (H : Hp) (vs : List V) (Q : VK) (E : XK), Room k (A.deeper (envOfC x (defScope st) s.heap.objs.size f cdv)) → sp vs H Q E →
      ∃ t, PSs (cxOf CX0 P w K mg base N x (defScope st) f cdv A outer s H E).nox (defBody st) t ∧ t { nx := fun _ H' => Q .non H', rt := Q } (start N vs) H) : FnOk P w K mg base CX0 (k + 1) f fd ps sp :=
  F.ok S ar fun cdv A outer s H vs Q E room want => by
    obtain ⟨t, a, b⟩ := hb cdv A outer s H vs Q E room want
    exact ⟨t, a.nox, b⟩
end
def whole (d : PyData) : Bool := isInt d && !isBool d
def cnt (d : PyData) (m : Int) : Bool := match d with
  | .int i => decide (0 ≤ i) && decide (i ≤ m)
  | _ => false
section
variable {P : Program} {w : World} {K : PySem.W.Frag} {mg : Str → Option Value} {base : Heap}
def spWhole : Sp := fun vs H Q _ => ∃ (x : V) (d : PyData), vs = [x] ∧ Dt H x d ∧ Q (.bl (whole d)) H
theorem ok_is_whole (T : Tx K mg) : FnOk P w K mg base CX0 1 T.a_is_whole T.d_is_whole ["value"] spWhole := by
  refine bodyU0 T.F_is_whole sc_is_whole (fun vs H Q E h => ?_) (fun cdv A outer s H vs Q E hr h => ?_)
  · obtain ⟨x, d, rfl, _⟩ := h; rfl
  · obtain ⟨x, d, rfl, hd, q⟩ := h
    refine ⟨_, (pss_one (ps_ret (pe_and (pe_callB call_isD (by rfl) T.z_isinstance (by decide +kernel) (pa_cons (pv 0) (pa_cons (pe_bltn (v := .ty "int") (by rfl) T.z_int (by decide +kernel) rfl) pa_nil))) (pe_one (pe_not (pe_callB call_isD (by rfl) T.z_isinstance (by decide +kernel) (pa_cons (pv 0) (pa_cons (pe_bltn (v := .ty "bool") (by rfl) T.z_bool (by decide +kernel) rfl) pa_nil)))))))), ?_⟩
    refine ⟨_, rfl, x, d, _, _, rfl, hd, kit_int d, _, rfl, ?_⟩
    unfold whole at q
    cases hi : isInt d with
    | true =>
      rw [hi] at q
      exact iteT ⟨_, rfl, x, d, _, _, rfl, hd, kit_bool d, _, rfl, q⟩
    | false =>
      rw [hi] at q
      exact iteF q
def spCountTo : Sp := fun vs H Q _ => ∃ (x : V) (d : PyData) (m : Int), vs = [x, .int m] ∧ Dt H x d ∧ Q (.bl (cnt d m)) H
theorem ok_is_count_to (T : Tx K mg) : FnOk P w K mg base CX0 2 T.a_is_count_to T.d_is_count_to ["value", "most"] spCountTo := by
  have G_is_whole := ok_is_whole (P := P) (w := w) (base := base) T
  refine bodyU0 T.F_is_count_to sc_is_count_to (fun vs H Q E h => ?_) (fun cdv A outer s H vs Q E hr h => ?_)
  · obtain ⟨x, d, m, rfl, _⟩ := h; rfl
  · obtain ⟨x, d, m, rfl, hd, q⟩ := h
    refine ⟨_, (pss_one (ps_ret (pe_and (pe_call G_is_whole (hr.mono (by decide)) (by rfl) T.g_is_whole T.F_is_whole.kp T.b_is_whole .nil pass0 (pa_cons (pv 0) pa_nil)) (pe_one (pe_chain op_le op_le pe_int (pv 0) (pv 1)))))), ?_⟩
    refine ⟨_, rfl, x, d, rfl, hd, _, rfl, ?_⟩
    cases hd with
    | int i =>
      refine iteT ⟨_, rfl, _, _, rfl, rfl, _, rfl, ?_⟩
      have q : Q (.bl (decide (0 ≤ i) && decide (i ≤ m))) H := q
      by_cases h0 : 0 ≤ i
      · rw [decide_eq_true h0] at q ⊢
        exact iteT ⟨_, rfl, _, _, rfl, rfl, q⟩
      · rw [decide_eq_false h0] at q ⊢
        exact iteF q
    | _ => exact iteF q
theorem all_true {α : Type} : ∀ l : List α, (l.map fun _ => true).all id = true
  | [] => rfl
  | _ :: r => by rw [List.map_cons, List.all_cons, all_true r]; rfl
def stepB (d : PyData) (size stands : Int) : Bool := match d with
  | .list ds => decide ((ds.length : Int) = size) && ds.all fun x => cnt x (stands - 1)
  | _ => false
def spStep : Sp := fun vs H Q _ => ∃ (x : V) (d : PyData) (size stands : Int), vs = [x, .int size, .int stands] ∧ Dt H x d ∧ Nice d ∧ ∀ H', Same H H' → Q (.bl (stepB d size stands)) H'
theorem len_of_nice {ds : List PyData} (h : Nice (.list ds)) : ds.length ≤ 262144 := by
  have key : ∀ l : List PyData, l.length ≤ PyData.bulkAll l := by
    intro l
    induction l with
    | nil => exact Nat.zero_le _
    | cons x r ih =>
      simp only [PyData.bulkAll, List.length_cons]
      omega
  have := h.small
  simp only [PyData.bulk] at this
  exact Nat.le_trans (key ds) this
theorem ok_is_step (T : Tx K mg) : FnOk P w K mg base CX0 3 T.a_is_step T.d_is_step ["value", "size", "stands"] spStep := by
  have G_is_count_to := ok_is_count_to (P := P) (w := w) (base := base) T
  refine bodyU0 T.F_is_step sc_is_step (fun vs H Q E h => ?_) (fun cdv A outer s H vs Q E hr h => ?_)
  · obtain ⟨x, d, size, stands, rfl, _⟩ := h; rfl
  · obtain ⟨x, d, size, stands, rfl, hd, nd, q⟩ := h
    refine ⟨_, (pss_cons (ps_if (PW.pt (pw_or (pt_not (pt_val (pe_callB call_isD (by rfl) T.z_isinstance (by decide +kernel) (pa_cons (pv 0) (pa_cons (pe_bltn (v := .ty "list") (by rfl) T.z_list (by decide +kernel) rfl) pa_nil))))) (pw_or1 (pt_cmpR op_ne (pe_callB (call_lenK (K := K) rfl) (by rfl) T.z_len (by decide +kernel) (pa_cons (pv 0) pa_nil)) (pv 1) (nomark _))))) (pss_one (ps_ret pe_bl)) pss_nil)
      (pss_one (ps_ret (pe_callB (cr_allK (K := K) rfl rfl) (by rfl) T.z_all (by decide +kernel) (pa_cons (pe_lc (own := [("stand", 3)]) (g := gName 3) (tt := tYes) rfl sc_is_step.nd (pi_list (pv 0)) (blkOk_by (N := ["value", "size", "stands", "stand"]) (sc := defScope s_is_step) (by decide +kernel)) (fun _ _ _ _ _ => (pg_name (i := 3) sc_is_step.nd rfl (Or.inl rfl))) (fun _ _ _ _ _ => pts_nil) (fun _ _ _ _ _ => (pe_call G_is_count_to (hr.mono (by decide)) (by rfl) T.g_is_count_to T.F_is_count_to.kp T.b_is_count_to .nil pass0 (pa_cons (pv 3) (pa_cons (pe_op op_sub (pv 2) pe_int) pa_nil))))) pa_nil))))), ?_⟩
    refine ⟨_, rfl, x, d, _, _, rfl, hd, kit_list d, _, rfl, ?_⟩
    cases hd with
    | @lst a xs ds ha hs =>
      have sq : SqL K H a xs := .inl (.inl ha)
      have hlen : xs.length = ds.length := hs.len
      have hz := len_of_nice nd
      refine iteF ⟨_, rfl, a, xs, rfl, .inl sq, _, rfl, rfl, _, rfl, ?_⟩
      have q : ∀ H', Same H H' → Q (.bl (decide ((ds.length : Int) = size) && ds.all fun x => cnt x (stands - 1))) H' := q
      rw [vi, hlen]
      by_cases hsz : (ds.length : Int) = size
      · rw [decide_eq_true hsz] at q ⊢
        refine iteF ⟨_, rfl, a, rfl, ⟨_, sq⟩, fun D hD => ?_⟩
        let f : Nat → Bool := fun i => match ds[i]? with
          | some y => cnt y (stands - 1)
          | none => false
        refine lc_list (K := K) (a := a) (xs := xs) (fun i H' => Same H H' ∧ H' D = some (.lst ((List.range i).map fun i => V.bl (f i)))) ⟨same_new' hD, upd_same⟩ (fun i H' _ e => e.1.seq sq) ?_ ?_
        · rintro i y H' hi ⟨s1, e1⟩
          obtain ⟨c, hc, hy⟩ := hs.get i y hi
          have il : i < xs.length := (List.getElem?_eq_some_iff.mp hi).1
          refine ⟨rfl, yes_if ?_⟩
          refine ⟨_, rfl, _, rfl, _, _, rfl, rfl, y, c, _, rfl, hy.to s1, ?_⟩
          have ef : f i = cnt c (stands - 1) := by
            show (match ds[i]? with
              | some y => cnt y (stands - 1)
              | none => false) = _
            rw [hc]
          dsimp only
          rw [← ef]
          exact lcS (f := fun i => V.bl (f i)) hD s1 e1 (by omega)
        · rintro H' ⟨s1, e1⟩
          refine ⟨D, (List.range xs.length).map f, rfl, .inl (.inl ?_), ?_⟩
          · rw [e1, List.map_map]
            rfl
          · have e : ((List.range xs.length).map f).all id = ds.all fun x => cnt x (stands - 1) := by
              rw [hlen, Bool.eq_iff_iff, List.all_eq_true, List.all_eq_true]
              constructor
              · intro h y hy
                obtain ⟨i, hi, e⟩ := List.getElem_of_mem hy
                have h2 := h (f i) (List.mem_map.mpr ⟨i, List.mem_range.mpr hi, rfl⟩)
                have ef : f i = cnt y (stands - 1) := by
                  show (match ds[i]? with
                    | some y => cnt y (stands - 1)
                    | none => false) = _
                  rw [List.getElem?_eq_getElem hi, e]
                rw [← ef]
                exact h2
              · intro h b hb
                obtain ⟨i, hi, rfl⟩ := List.mem_map.mp hb
                have hi := List.mem_range.mp hi
                show (match ds[i]? with
                    | some y => cnt y (stands - 1)
                    | none => false) = true
                rw [List.getElem?_eq_getElem hi]
                exact h _ (List.getElem_mem hi)
            rw [e]
            exact q _ s1
      · rw [decide_eq_false hsz] at q ⊢
        exact iteT (q H (Same.refl H))
    | _ => exact iteT (q H (Same.refl H))
end
def wh : PyData → Int
  | .int k => k
  | _ => 0
def items : PyData → List PyData
  | .list ds => ds
  | _ => []
def tabL (k : Int) (ss es : List PyData) : Bool := !decide ((ss.length : Int) = 0) && (decide ((ss.length : Int) = es.length) && (es.all isBool && ss.all fun x => stepB x (1 * 2 ^ k.toNat) ss.length))
def tab3 (m s e : PyData) : Bool := cnt m 6 && (isList s && (isList e && tabL (wh m) (items s) (items e)))
def tabB (d : PyData) : Bool := match d with
  | .tuple [m, s, e] => tab3 m s e
  | _ => false
theorem tabB_len {ds : List PyData} (h : ¬ (ds.length : Int) = 3) : tabB (.tuple ds) = false := by
  match ds, h with
  | [], _ => rfl
  | [_], _ => rfl
  | [_, _], _ => rfl
  | [_, _, _], h => exact absurd rfl h
  | _ :: _ :: _ :: _ :: _, _ => rfl
section
variable {P : Program} {w : World} {K : PySem.W.Frag} {mg : Str → Option Value} {base : Heap}
def spForm : Sp := fun vs H Q _ => ∃ (x : V) (d : PyData), vs = [x] ∧ Dt H x d ∧ (isTuple d = true → Nice d) ∧ ∀ H', Same H H' → Q (.bl (tabB d)) H'
theorem ok_is_table_form (T : Tx K mg) : FnOk P w K mg base CX0 4 T.a_is_table_form T.d_is_table_form ["value"] spForm := by
  have G_is_count_to := ok_is_count_to (P := P) (w := w) (base := base) T
  have G_is_step := ok_is_step (P := P) (w := w) (base := base) T
  refine bodyU0 T.F_is_table_form sc_is_table_form (fun vs H Q E h => ?_) (fun cdv A outer s H vs Q E hr h => ?_)
  · obtain ⟨x, d, rfl, _⟩ := h; rfl
  · obtain ⟨x, d, rfl, hd, nd, q⟩ := h
    refine ⟨_, (pss_cons (ps_if (PW.pt (pw_or (pt_not (pt_val (pe_callB call_isD (by rfl) T.z_isinstance (by decide +kernel) (pa_cons (pv 0) (pa_cons (pe_bltn (v := .ty "tuple") (by rfl) T.z_tuple (by decide +kernel) rfl) pa_nil))))) (pw_or1 (pt_cmpR op_ne (pe_callB (call_lenK (K := K) rfl) (by rfl) T.z_len (by decide +kernel) (pa_cons (pv 0) pa_nil)) pe_int (nomark _))))) (pss_one (ps_ret pe_bl)) pss_nil)
      (pss_cons (ps_asg (pv 0) (pg_tup (by rfl) (pgs_cons (pg_name (i := 1) sc_is_table_form.nd rfl (Or.inr rfl)) (pgs_cons (pg_name (i := 2) sc_is_table_form.nd rfl (Or.inr rfl)) (pgs_cons (pg_name (i := 3) sc_is_table_form.nd rfl (Or.inl rfl)) pgs_nil)))))
      (pss_cons (ps_if (PW.pt (pw_or (pt_not (pt_val (pe_call G_is_count_to (hr.mono (by decide)) (by rfl) T.g_is_count_to T.F_is_count_to.kp T.b_is_count_to .nil pass0 (pa_cons (pv 1) (pa_cons (C8.pe_gc (by rfl) T.c_MOST_NAMES) pa_nil))))) (pw_or (pt_not (pt_val (pe_callB call_isD (by rfl) T.z_isinstance (by decide +kernel) (pa_cons (pv 2) (pa_cons (pe_bltn (v := .ty "list") (by rfl) T.z_list (by decide +kernel) rfl) pa_nil))))) (pw_or1 (pt_not (pt_val (pe_callB call_isD (by rfl) T.z_isinstance (by decide +kernel) (pa_cons (pv 3) (pa_cons (pe_bltn (v := .ty "list") (by rfl) T.z_list (by decide +kernel) rfl) pa_nil))))))))) (pss_one (ps_ret pe_bl)) pss_nil)
      (pss_cons (ps_if (PW.pt (pw_or (pt_cmpR op_eq (pe_callB (call_lenK (K := K) rfl) (by rfl) T.z_len (by decide +kernel) (pa_cons (pv 2) pa_nil)) pe_int (nomark _)) (pw_or1 (pt_cmpR op_ne (pe_callB (call_lenK (K := K) rfl) (by rfl) T.z_len (by decide +kernel) (pa_cons (pv 2) pa_nil)) (pe_callB (call_lenK (K := K) rfl) (by rfl) T.z_len (by decide +kernel) (pa_cons (pv 3) pa_nil)) (nomark _))))) (pss_one (ps_ret pe_bl)) pss_nil)
      (pss_cons (ps_if (pt_not (pt_val (pe_callB (cr_allK (K := K) rfl rfl) (by rfl) T.z_all (by decide +kernel) (pa_cons (pe_lc (own := [("end", 5)]) (g := gName 5) (tt := tYes) rfl sc_is_table_form.nd (pi_list (pv 3)) (blkOk_by (N := ["value", "many", "steps", "ends", "step", "end"]) (sc := defScope s_is_table_form) (by decide +kernel)) (fun _ _ _ _ _ => (pg_name (i := 5) sc_is_table_form.nd rfl (Or.inl rfl))) (fun _ _ _ _ _ => pts_nil) (fun _ _ _ _ _ => (pe_callB call_isD (by rfl) T.z_isinstance (by decide +kernel) (pa_cons (pv 5) (pa_cons (pe_bltn (v := .ty "bool") (by rfl) T.z_bool (by decide +kernel) rfl) pa_nil))))) pa_nil)))) (pss_one (ps_ret pe_bl)) pss_nil)
      (pss_one (ps_ret (pe_callB (cr_allK (K := K) rfl rfl) (by rfl) T.z_all (by decide +kernel) (pa_cons (pe_lc (own := [("step", 4)]) (g := gName 4) (tt := tYes) rfl sc_is_table_form.nd (pi_list (pv 2)) (blkOk_by (N := ["value", "many", "steps", "ends", "step", "end"]) (sc := defScope s_is_table_form) (by decide +kernel)) (fun _ _ _ _ _ => (pg_name (i := 4) sc_is_table_form.nd rfl (Or.inl rfl))) (fun _ _ _ _ _ => pts_nil) (fun _ _ _ _ _ => (pe_call G_is_step (hr.mono (by decide)) (by rfl) T.g_is_step T.F_is_step.kp T.b_is_step .nil pass0 (pa_cons (pv 4) (pa_cons (pe_op op_shlW pe_int (pv 1)) (pa_cons (pe_callB (call_lenK (K := K) rfl) (by rfl) T.z_len (by decide +kernel) (pa_cons (pv 2) pa_nil)) pa_nil)))))) pa_nil))))))))), ?_⟩
    refine ⟨_, rfl, x, d, _, _, rfl, hd, kit_tuple d, _, rfl, ?_⟩
    cases hd with
    | @tup a xs ds ha hs =>
      have nd := nd rfl
      have sq : SqT K H a xs := .inl (.inl ha)
      refine iteF ⟨_, rfl, a, xs, rfl, .inr sq, rfl, _, rfl, ?_⟩
      rw [vi, hs.len]
      by_cases h3 : (ds.length : Int) = 3
      · rw [decide_eq_true h3]
        refine iteF ?_
        obtain ⟨m, st, en, rfl⟩ : ∃ m st en, ds = [m, st, en] := by
          match ds, h3 with
          | [m, st, en], _ => exact ⟨m, st, en, rfl⟩
          | [], h => simp at h
          | [_], h => simp at h
          | [_, _], h => simp at h
          | _ :: _ :: _ :: _ :: r, h => simp only [List.length_cons] at h; omega
        cases hs with
        | @cons vm _ _ _ hm hs =>
        cases hs with
        | @cons vst _ _ _ hst hs =>
        cases hs with
        | @cons ven _ _ _ hen hs =>
        cases hs with
        | nil =>
        have nst : Nice st := nd.tupMem st (by simp)
        have nen : Nice en := nd.tupMem en (by simp)
        refine ⟨_, rfl, a, _, rfl, sq, rfl, vm, _, rfl, vst, _, rfl, ven, _, rfl, rfl, ?_⟩
        have q : ∀ H', Same H H' → Q (.bl (cnt m 6 && (isList st && (isList en && tabL (wh m) (items st) (items en))))) H' := q
        refine ⟨_, rfl, vm, m, 6, rfl, hm, _, rfl, ?_⟩
        cases hm6 : cnt m 6 with
        | false =>
          rw [hm6] at q
          exact iteT (q H (Same.refl H))
        | true =>
          rw [hm6] at q
          refine iteF ⟨_, rfl, vst, st, _, _, rfl, hst, kit_list st, _, rfl, ?_⟩
          cases hst with
          | @lst b ys ss hb hss =>
            refine iteF ⟨_, rfl, ven, en, _, _, rfl, hen, kit_list en, _, rfl, ?_⟩
            cases hen with
            | @lst c zs es hc hes =>
              have sqb : SqL K H b ys := .inl (.inl hb)
              have sqc : SqL K H c zs := .inl (.inl hc)
              obtain ⟨k, rfl, k6⟩ : ∃ k : Nat, m = .int (k : Int) ∧ k ≤ 6 := by
                cases m with
                | int k =>
                  have z : (decide (0 ≤ k) && decide (k ≤ 6)) = true := hm6
                  obtain ⟨z1, z2⟩ := Bool.and_eq_true_iff.mp z
                  have z1 := of_decide_eq_true z1
                  have z2 := of_decide_eq_true z2
                  exact ⟨k.toNat, by rw [Int.toNat_of_nonneg z1], by omega⟩
                | _ => cases hm6
              cases hm
              have q : ∀ H', Same H H' → Q (.bl (!decide ((ss.length : Int) = 0) && (decide ((ss.length : Int) = es.length) && (es.all isBool && ss.all fun x => stepB x (1 * 2 ^ (k : Int).toNat) ss.length)))) H' := q
              refine iteF ⟨_, rfl, b, ys, rfl, .inl sqb, rfl, _, rfl, ?_⟩
              rw [vi, hss.len]
              by_cases h0 : (ss.length : Int) = 0
              · rw [decide_eq_true h0] at q ⊢
                exact iteT (q H (Same.refl H))
              rw [decide_eq_false h0] at q ⊢
              refine iteF ⟨_, rfl, b, ys, rfl, .inl sqb, _, rfl, c, zs, rfl, .inl sqc, rfl, _, rfl, ?_⟩
              rw [vi, hss.len, hes.len]
              by_cases hl : (ss.length : Int) = es.length
              · rw [decide_eq_true hl] at q ⊢
                have ze := len_of_nice nen
                have zs' := len_of_nice nst
                have le := hes.len
                have ls := hss.len
                refine iteF ⟨_, rfl, c, rfl, ⟨_, sqc⟩, fun D hD => ?_⟩
                refine lc_list (K := K) (a := c) (xs := zs) (fun i H' => Same H H' ∧ H' D = some (.lst ((List.range i).map fun i => V.bl (atF es isBool i)))) ⟨same_new' hD, upd_same⟩ (fun i H' _ e => e.1.seq sqc) ?_ ?_
                · rintro i y H' hi ⟨s1, e1⟩
                  obtain ⟨d, hdi, hy⟩ := hes.get i y hi
                  have il : i < zs.length := (List.getElem?_eq_some_iff.mp hi).1
                  refine ⟨rfl, yes_if ?_⟩
                  refine ⟨_, rfl, y, d, _, _, rfl, hy.to s1, kit_bool d, ?_⟩
                  rw [← atF_at (g := isBool) hdi]
                  exact lcS (f := fun i => V.bl (atF es isBool i)) hD s1 e1 (by omega)
                · rintro H' ⟨s1, e1⟩
                  refine ⟨D, (List.range zs.length).map (atF es isBool), rfl, .inl (.inl ?_), _, rfl, ?_⟩
                  · rw [e1, List.map_map]
                    rfl
                  rw [le, all_atF]
                  cases hb2 : es.all isBool with
                  | false =>
                    rw [hb2] at q
                    exact iteT (q H' s1)
                  | true =>
                    rw [hb2] at q
                    have sqb' := s1.seq sqb
                    refine iteF ⟨_, rfl, b, rfl, ⟨_, sqb'⟩, fun D2 hD2 => ?_⟩
                    refine lc_list (K := K) (a := b) (xs := ys) (fun i H2 => Same H' H2 ∧ H2 D2 = some (.lst ((List.range i).map fun i => V.bl (atF ss (fun x => stepB x (1 * 2 ^ (k : Int).toNat) ss.length) i)))) ⟨same_new' hD2, upd_same⟩ (fun i H2 _ e => e.1.seq sqb') ?_ ?_
                    · rintro i y H2 hi ⟨s2, e2⟩
                      obtain ⟨d, hdi, hy⟩ := hss.get i y hi
                      have il : i < ys.length := (List.getElem?_eq_some_iff.mp hi).1
                      have nl := nst.listMem d (List.mem_of_getElem? hdi)
                      refine ⟨rfl, yes_if ?_⟩
                      refine ⟨_, rfl, _, rfl, _, _, rfl, rfl, shl_ok (n := 1) (by decide) (by omega), _, rfl, b, ys, rfl, .inl (s2.seq sqb'), y, d, _, _, rfl, hy.to (s1.trans s2), nl, fun H3 s3 => ?_⟩
                      rw [ls, ← atF_at (g := fun x => stepB x (1 * 2 ^ (k : Int).toNat) ss.length) hdi]
                      exact lcS (f := fun i => V.bl (atF ss (fun x => stepB x (1 * 2 ^ (k : Int).toNat) ss.length) i)) hD2 (s2.trans s3) (s3 _ _ e2) (by omega)
                    · rintro H2 ⟨s2, e2⟩
                      refine ⟨D2, (List.range ys.length).map (atF ss fun x => stepB x (1 * 2 ^ (k : Int).toNat) ss.length), rfl, .inl (.inl ?_), ?_⟩
                      · rw [e2, List.map_map]
                        rfl
                      rw [ls, all_atF]
                      exact q H2 (s1.trans s2)
              · rw [decide_eq_false hl] at q ⊢
                exact iteT (q H (Same.refl H))
            | _ => exact iteT (q H (Same.refl H))
          | _ => exact iteT (q H (Same.refl H))
      · rw [tabB_len h3] at q
        rw [decide_eq_false h3]
        exact iteT (q H (Same.refl H))
    | _ => exact iteT (q H (Same.refl H))
def spEnds : Sp := fun vs H Q _ => ∃ (x : V) (t : Tb) (i : Nat) (v : V), vs = [x, .int i] ∧ Dt H x t.d ∧ (t.ends.map V.bl)[i]? = some v ∧ Q v H
theorem ok_table_ends (T : Tx K mg) : FnOk P w K mg base CX0 1 T.a_table_ends T.d_table_ends ["table", "stand"] spEnds := by
  refine bodyU0 T.F_table_ends sc_table_ends (fun vs H Q E h => ?_) (fun cdv A outer s H vs Q E hr h => ?_)
  · obtain ⟨x, t, i, v, rfl, _⟩ := h; rfl
  · obtain ⟨x, t, i, v, rfl, hx, hi, q⟩ := h
    refine ⟨_, (pss_one (ps_ret (pe_ix (ix_listK (K := K) rfl) (pe_ix (ix_tupK (K := K) rfl) (pv 0) pe_int (fun _ _ => rfl)) (pv 1) (fun _ _ => rfl)))), ?_⟩
    obtain ⟨a, b, c, ys, rfl, ha, hb, hyl, hrow, hc, _⟩ := hx.tab
    have sa : SqT K H a [.int (t.many : Int), .ref b, .ref c] := .inl (.inl ha)
    exact ⟨_, rfl, a, _, 2, _, rfl, rfl, sa, rfl, _, rfl, c, _, _, _, rfl, rfl, .inl (.inl hc), atI_nat hi, q⟩
theorem good_form {t : Tb} (g : t.Good) : tabB t.d = true := by
  show tab3 _ _ _ = true
  unfold tab3
  have h1 : cnt (.int (t.many : Int)) 6 = true := by
    show (decide (0 ≤ (t.many : Int)) && decide ((t.many : Int) ≤ 6)) = true
    have := g.many
    rw [decide_eq_true (show 0 ≤ (t.many : Int) by omega), decide_eq_true (show (t.many : Int) ≤ 6 by omega)]; rfl
  rw [h1]
  show (true && (true && tabL (t.many : Int) (t.steps.map fun l => PyData.list (natD l)) (t.ends.map PyData.bool))) = true
  have g1 := g.some
  have g2 := g.same
  unfold tabL
  simp only [List.length_map, Bool.true_and, Bool.and_eq_true, Bool.not_eq_true', decide_eq_false_iff_not, decide_eq_true_eq]
  refine ⟨by omega, by omega, ?_, ?_⟩
  · rw [List.all_eq_true]
    intro x hx
    obtain ⟨b, _, rfl⟩ := List.mem_map.mp hx
    rfl
  · rw [List.all_eq_true]
    intro x hx
    obtain ⟨l, hl, rfl⟩ := List.mem_map.mp hx
    show (decide (((natD l).length : Int) = 1 * 2 ^ (t.many : Int).toNat) && (natD l).all fun x => cnt x ((t.steps.length : Int) - 1)) = true
    rw [List.length_map, g.line l hl, Int.toNat_natCast, Int.one_mul, Int.natCast_pow]
    refine Bool.and_eq_true_iff.mpr ⟨decide_eq_true rfl, ?_⟩
    rw [List.all_eq_true]
    intro y hy
    obtain ⟨n, hn, rfl⟩ := List.mem_map.mp hy
    have := g.stand l hl n hn
    show (decide (0 ≤ (n : Int)) && decide ((n : Int) ≤ (t.steps.length : Int) - 1)) = true
    rw [decide_eq_true (show 0 ≤ (n : Int) by omega), decide_eq_true (show (n : Int) ≤ (t.steps.length : Int) - 1 by omega)]; rfl
def spCheckTable : Sp := fun vs H Q _ => ∃ (x : V) (d : PyData), vs = [x] ∧ Dt H x d ∧ Nice d ∧ tabB d = true ∧ ∀ H', Same H H' → Q .non H'
theorem ok_check_table (T : Tx K mg) : FnOk P w K mg base CX0 5 T.a_check_table T.d_check_table ["table"] spCheckTable := by
  have G_is_table_form := ok_is_table_form (P := P) (w := w) (base := base) T
  refine bodyU0 T.F_check_table sc_check_table (fun vs H Q E h => ?_) (fun cdv A outer s H vs Q E hr h => ?_)
  · obtain ⟨x, d, rfl, _⟩ := h; rfl
  · obtain ⟨x, d, rfl, hd, nd, ht, q⟩ := h
    refine ⟨_, (pss_one (ps_if (pt_not (pt_val (pe_call G_is_table_form (hr.mono (by decide)) (by rfl) T.g_is_table_form T.F_is_table_form.kp T.b_is_table_form .nil pass0 (pa_cons (pv 0) pa_nil)))) (pss_one ps_never) pss_nil)), ?_⟩
    refine ⟨_, rfl, x, d, rfl, hd, fun _ => nd, fun H' e => ⟨_, rfl, ?_⟩⟩
    rw [ht]
    exact iteF (q H' e)
end

end K14

set_option Elab.async false
set_option linter.all false
set_option maxRecDepth 100000
set_option maxHeartbeats 4000000
namespace K14
open PySem PySem.Spec PyProof.Rows L2 Hw

/-- a stand and its first row, and where they are laid: the pair at t, the row at r -/
structure En where
  n : Nat
  row : List Nat
  t : Addr
  r : Addr
def En.p (e : En) : Nat × List Nat := (e.n, e.row)
/-- the list of pairs at c, all of it new since H0, no row laid twice -/
structure RowsAt (H0 H : Hp) (c : Addr) (es : List En) : Prop where
  at_ : H c = some (.lst (es.map fun e => V.ref e.t))
  new : H0 c = none
  each : ∀ e ∈ es, H e.t = some (.tup [.int (e.n : Int), .ref e.r]) ∧ H e.r = some (.lst (natV e.row)) ∧ H0 e.r = none ∧ e.r ≠ c
  diff : (es.map (·.r)).Nodup
theorem ne_obj {H : Hp} {a b : Addr} {o o' : HO} (h1 : H a = some o) (h2 : H b = some o') (n : o ≠ o') : a ≠ b := fun e => by
  rw [e, h2] at h1
  exact n (Option.some.inj h1).symm
theorem RowsAt.same {H0 H H' : Hp} {c : Addr} {es : List En} (R : RowsAt H0 H c es) (s : Same H H') : RowsAt H0 H' c es :=
  ⟨s _ _ R.at_, R.new, fun e he => ⟨s _ _ (R.each e he).1, s _ _ (R.each e he).2.1, (R.each e he).2.2⟩, R.diff⟩
theorem RowsAt.from {H0 H1 H : Hp} {c : Addr} {es : List En} (R : RowsAt H1 H c es) (s : Same H0 H1) : RowsAt H0 H c es :=
  ⟨R.at_, s.free R.new, fun e he => ⟨(R.each e he).1, (R.each e he).2.1, s.free (R.each e he).2.2.1, (R.each e he).2.2.2⟩, R.diff⟩
def pairD (p : Nat × List Nat) : PyData := .tuple [.int (p.1 : Int), .list (natD p.2)]
theorem RowsAt.dt {H0 H : Hp} {c : Addr} {es : List En} (R : RowsAt H0 H c es) : Dt H (.ref c) (.list (es.map fun e => pairD e.p)) := by
  refine .lst R.at_ ?_
  have h := R.each
  revert h
  generalize es = es
  intro h
  induction es with
  | nil => exact .nil
  | cons e r ih =>
    obtain ⟨h1, h2, _⟩ := h e (List.mem_cons_self ..)
    exact .cons (.tup h1 (.cons (.int _) (.cons (Dt.nats h2) .nil))) (ih fun x hx => h x (List.mem_cons_of_mem _ hx))
/-- how far the queue is made -/
structure FI (H : Hp) (n : Nat) (c m : Addr) (L : Nat) (H' : Hp) (es : List En) (kvs : List (Key × V)) : Prop where
  same : Same H H'
  rows : RowsAt H H' c es
  dict : H' m = some (.dK kvs)
  mnew : H m = none
  few : kvs.length ≤ es.length
  seen : ∀ k : Nat, (valV kvs (Sum.inl (k : Int))).isSome = es.any fun e => e.n == k
  nodup : (es.map (·.n)).Nodup
  small : ∀ e ∈ es, e.n < n
  short : ∀ e ∈ es, e.row.length ≤ L
section
variable {H H' : Hp} {n : Nat} {c m : Addr} {L : Nat} {es : List En} {kvs : List (Key × V)}
theorem FI.up (I : FI H n c m L H' es kvs) : FI H n c m (L + 1) H' es kvs := { I with short := fun e he => Nat.le_succ_of_le (I.short e he) }
theorem FI.to {H2 : Hp} (I : FI H n c m L H' es kvs) (s : Same H' H2) : FI H n c m L H2 es kvs := { I with same := I.same.trans s, rows := I.rows.same s, dict := s _ _ I.dict }
theorem FI.len (I : FI H n c m L H' es kvs) : es.length ≤ n := by
  have := nodup_le n _ I.nodup fun x hx => by
    obtain ⟨e, he, rfl⟩ := List.mem_map.mp hx
    exact I.small e he
  rwa [List.length_map] at this
theorem FI.add (I : FI H n c m L H' es kvs) {e : En} (he : e ∈ es) (hL : e.row.length + 1 ≤ L) {k x : Nat} (hk : k < n) (hn : (es.any fun e => e.n == k) = false) {l q u : Addr} {H1 H2 H3 H4 : Hp}
    (e1 : H1 = upd H' m (.dK (putK kvs (Sum.inl (k : Int)) (.bl true)))) (hl : H1 l = none) (e2 : H2 = upd H1 l (.lst [.int (x : Int)])) (hq : H2 q = none) (e3 : H3 = upd H2 q (.lst (natV e.row ++ [.int (x : Int)]))) (hu : H3 u = none)
    (e4 : H4 = upd H3 u (.tup [.int (k : Int), .ref q])) :
    FI H n c m L (upd H4 c (.lst ((es.map fun e => V.ref e.t) ++ [.ref u]))) (es ++ [⟨k, e.row ++ [x], u, q⟩]) (putK kvs (Sum.inl (k : Int)) (.bl true)) := by
  have d1 : H1 m = some (.dK (putK kvs (Sum.inl (k : Int)) (.bl true))) := by rw [e1]; exact upd_same
  have s12 : Same H1 H2 := by rw [e2]; exact same_new' hl
  have s23 : Same H2 H3 := by rw [e3]; exact same_new' hq
  have s34 : Same H3 H4 := by rw [e4]; exact same_new' hu
  have s14 := s12.trans (s23.trans s34)
  have d4 := s14 _ _ d1
  have mc : m ≠ c := ne_obj I.dict I.rows.at_ (fun z => by cases z)
  have c1 : H1 c = some (.lst (es.map fun e => V.ref e.t)) := by rw [e1, upd_ne mc.symm]; exact I.rows.at_
  have c4 := s14 _ _ c1
  have keep : ∀ b o, H' b = some o → b ≠ m → b ≠ c → upd H4 c (.lst ((es.map fun e => V.ref e.t) ++ [.ref u])) b = some o := fun b o hb nm nc => by
    rw [upd_ne nc]
    exact s14 _ _ (by rw [e1, upd_ne nm]; exact hb)
  have q3 : H3 q = some (.lst (natV e.row ++ [.int (x : Int)])) := by rw [e3]; exact upd_same
  have q4 := s34 _ _ q3
  have u4 : H4 u = some (.tup [.int (k : Int), .ref q]) := by rw [e4]; exact upd_same
  have qc : q ≠ c := (ne_of_none ((s12 _ _ c1)) hq).symm
  have uc : u ≠ c := ne_obj u4 c4 (fun z => by cases z)
  have q' : ∀ b o, H' b = some o → b ≠ m → b ≠ q := fun b o hb nm => ne_of_none (s12 _ _ (show H1 b = some o by rw [e1, upd_ne nm]; exact hb)) hq
  have qm : q ≠ m := (ne_of_none (s12 _ _ d1) hq).symm
  have qn : H q = none := by
    cases z : H q with
    | none => rfl
    | some o => exact absurd rfl (q' q o (I.same _ _ z) qm)
  refine ⟨fun b o hb => keep b o (I.same _ _ hb) (ne_of_none hb I.mnew) (ne_of_none hb I.rows.new), ⟨?_, I.rows.new, fun f hf => ?_, ?_⟩, ?_, I.mnew, ?_, fun j => ?_, ?_, fun f hf => ?_, fun f hf => ?_⟩
  · rw [upd_same, List.map_append]
    rfl
  · rcases List.mem_append.mp hf with h | h
    · obtain ⟨h1, h2, h3, h4⟩ := I.rows.each f h
      have rm : f.r ≠ m := ne_obj h2 I.dict (fun z => by cases z)
      exact ⟨keep _ _ h1 (ne_obj h1 I.dict (fun z => by cases z)) (ne_obj h1 I.rows.at_ (fun z => by cases z)), keep _ _ h2 rm h4, h3, h4⟩
    · rw [List.mem_singleton.mp h]
      refine ⟨by rw [upd_ne uc]; exact u4, ?_, qn, qc⟩
      show upd H4 c _ q = some (.lst (natV (e.row ++ [x])))
      rw [upd_ne qc, q4]
      unfold natV
      rw [List.map_append]
      rfl
  · rw [List.map_append]
    refine List.nodup_append.mpr ⟨I.rows.diff, by simp, fun a ha b hb => ?_⟩
    obtain ⟨f, hf, rfl⟩ := List.mem_map.mp ha
    have hb : b = q := by simpa using hb
    rw [hb]
    obtain ⟨h1, h2, h3, h4⟩ := I.rows.each f hf
    exact q' _ _ h2 (ne_obj h2 I.dict (fun z => by cases z))
  · rw [upd_ne mc]
    exact d4
  · have := length_putK kvs (Sum.inl (k : Int)) (.bl true)
    have := I.few
    rw [List.length_append]
    show _ ≤ es.length + 1
    omega
  · rw [valV_put, List.any_append]
    by_cases h : j = k
    · rw [if_pos (by rw [h]), h]
      simp
    · rw [if_neg (fun z => h (by injection z with z; omega)), I.seen j]
      have : (k == j) = false := by simpa using fun z => h z.symm
      simp [this]
  · rw [List.map_append]
    refine List.nodup_append.mpr ⟨I.nodup, by simp, fun a ha b hb => ?_⟩
    obtain ⟨f, hf, rfl⟩ := List.mem_map.mp ha
    have hb : b = k := by simpa using hb
    rw [hb]
    intro z
    have := List.any_eq_false.mp hn f hf
    exact this (by simpa using z)
  · rcases List.mem_append.mp hf with h | h
    · exact I.small f h
    · rw [List.mem_singleton.mp h]
      exact hk
  · rcases List.mem_append.mp hf with h | h
    · exact I.short f h
    · rw [List.mem_singleton.mp h]
      show (e.row ++ [x]).length ≤ L
      rw [List.length_append]
      exact hL
end
theorem find_at {α : Type} {q : α → Bool} : ∀ (l : List α) (i : Nat) (x : α), l[i]? = some x → q x = true → (∀ j, j < i → ∀ y, l[j]? = some y → q y = false) → l.find? q = some x
  | [], i, x, h, _, _ => by simp at h
  | y :: r, 0, x, h, hx, _ => by
    have h : some y = some x := h
    cases h
    rw [List.find?_cons, hx]
  | y :: r, i + 1, x, h, hx, hn => by
    rw [List.find?_cons, hn 0 (by omega) y rfl]
    exact find_at r i x h hx fun j hj z hz => hn (j + 1) (by omega) z hz
def firsts (t : Tb) : List (Nat × List Nat) := bfsL (2 ^ t.many) t.next t.steps.length 0 [(0, [])]
theorem bfsL_stop {m : Nat} {f : Nat → Nat → Nat} {k i : Nat} {acc : List (Nat × List Nat)} (h : acc[i]? = none) : bfsL m f k i acc = acc := by
  cases k with
  | zero => rfl
  | succ k => rw [bfsL, h]
section
variable {P : Program} {w : World} {K : PySem.W.Frag} {mg : Str → Option Value} {base : Heap}
def spFirst : Sp := fun vs H Q _ => ∃ (x : V) (t : Tb), vs = [x] ∧ Dt H x t.d ∧ t.Good ∧ t.steps.length ≤ 1000 ∧ ∀ (c : Addr) (H' : Hp) (es : List En), Same H H' → RowsAt H H' c es → es.map En.p = firsts t → es.length ≤ t.steps.length → (∀ e ∈ es, e.n < t.steps.length ∧ e.row.length ≤ t.steps.length) → Q (.ref c) H'
theorem ok_first_rows (T : Tx K mg) : FnOk P w K mg base CX0 1 T.a_first_rows T.d_first_rows ["table"] spFirst := by
  refine bodyU0 T.F_first_rows sc_first_rows (fun vs H Q E h => ?_) (fun cdv A outer s H vs Q E hr h => ?_)
  · obtain ⟨x, t, rfl, _⟩ := h; rfl
  · obtain ⟨x, t, rfl, hx, g, hz, q⟩ := h
    refine ⟨_, (pss_cons (ps_set (i := 1) sc_first_rows.nd rfl (Or.inl rfl) (pe_lst (pa_cons (pe_tup (pa_cons pe_int (pa_cons (pe_lst pa_nil) pa_nil))) pa_nil)))
      (pss_cons (ps_set (i := 2) sc_first_rows.nd rfl (Or.inl rfl) (pe_disp (pps_cons pe_int pe_bl pps_nil) (by rfl) (by rfl) (by intro h; cases h) (by decide)))
      (pss_cons (ps_set (i := 3) sc_first_rows.nd rfl (Or.inl rfl) pe_int)
      (pss_cons (ps_while PassesOwn.never (pt_cmpR op_lt (pv 3) (pe_callB (call_lenK (K := K) rfl) (by rfl) T.z_len (by decide +kernel) (pa_cons (pv 1) pa_nil)) (nomark _)) (pss_cons (ps_asg (pe_ix (ix_listK (K := K) rfl) (pv 1) (pv 3) (fun _ _ => rfl)) (pg_tup (by rfl) (pgs_cons (pg_name (i := 4) sc_first_rows.nd rfl (Or.inl rfl)) (pgs_cons (pg_name (i := 5) sc_first_rows.nd rfl (Or.inl rfl)) pgs_nil))))
      (pss_cons (ps_for PassesOwn.never rfl (pi_enum (by rfl) T.z_enumerate (pa_cons (pe_ix (ix_listK (K := K) rfl) (pe_ix (ix_tupK (K := K) rfl) (pv 0) pe_int (fun _ _ => rfl)) (pv 4) (fun _ _ => rfl)) pa_nil)) (pg_tup (by rfl) (pgs_cons (pg_name (i := 6) sc_first_rows.nd rfl (Or.inl rfl)) (pgs_cons (pg_name (i := 7) sc_first_rows.nd rfl (Or.inl rfl)) pgs_nil))) (pss_one (ps_if (pt_cmp (pc_dnotin (hu_of hr) (pv 7) (pv 2)) (by rfl)) (pss_cons (ps_dput (hu_of hr) (pv 2) (pv 7) pe_bl rfl)
      (pss_one (ps_expr (pe_bm PySem.F.plainAttrs_list PySem.F.slot_list_append PySem.F.type_list_append mt_append (pv 1) (pa_cons (pe_tup (pa_cons (pv 7) (pa_cons (pe_op op_cat (pv 5) (pe_lst (pa_cons (pv 6) pa_nil))) pa_nil))) pa_nil))))) pss_nil)))
      (pss_one (ps_aug (i := 3) sc_first_rows.nd rfl (Or.inl rfl) pe_int ip_add)))))
      (pss_one (ps_ret (pv 1))))))), ?_⟩
    obtain ⟨a, b, cc, ys, rfl, ha, hb, hyl, hrow, hcc, _⟩ := hx.tab
    have gs := g.some
    have le1 : ∀ {n : Nat}, n ≤ 1000 → n ≤ sizeLine := fun h => by rw [sizeLine_eq]; omega
    have lt1 : ∀ {n : Nat}, n ≤ 1000 → n < sizeLine := fun h => by rw [sizeLine_eq]; omega
    refine ⟨Nat.zero_le _, fun r hr => ⟨le1 (by show 2 ≤ 1000; decide), fun u hu => ⟨le1 (by show 1 ≤ 1000; decide), fun c hc => ?_⟩⟩⟩
    refine fun m hm => ⟨upd_same, [(Sum.inl 0, V.bl true)], rfl, by decide, ?_⟩
    have sr : Same H (upd H r (.lst [])) := same_new' hr
    have su : Same (upd H r (.lst [])) (upd (upd H r (.lst [])) u (.tup [.int 0, .ref r])) := same_new' hu
    have sc : Same (upd (upd H r (.lst [])) u (.tup [.int 0, .ref r])) (upd (upd (upd H r (.lst [])) u (.tup [.int 0, .ref r])) c (.lst [.ref u])) := same_new' hc
    have r1 : (upd H r (.lst [])) r = some (.lst []) := upd_same
    have r2 := su _ _ r1
    have u2 : (upd (upd H r (.lst [])) u (.tup [.int 0, .ref r])) u = some (.tup [.int 0, .ref r]) := upd_same
    have nrc : r ≠ c := ne_of_none r2 hc
    have c3 : (upd (upd (upd H r (.lst [])) u (.tup [.int 0, .ref r])) c (.lst [.ref u])) c = some (.lst [.ref u]) := upd_same
    have r3 := sc _ _ r2
    have u3 := sc _ _ u2
    have sH := sr.trans (su.trans sc)
    have cn : H c = none := sr.free (su.free hc)
    revert hm sH c3 r3 u3
    generalize (upd (upd (upd H r (.lst [])) u (.tup [.int 0, .ref r])) c (.lst [.ref u])) = H3
    intro hm c3 r3 u3 sH
    have mn : H m = none := sH.free hm
    have I0 : FI H t.steps.length c m 0 (upd (upd H3 m (.dK [])) m (.dK (mergeK [] [(Sum.inl 0, V.bl true)]))) [⟨0, [], u, r⟩] (mergeK [] [(Sum.inl 0, V.bl true)]) := by
      have kp : ∀ b o, H3 b = some o → upd (upd H3 m (.dK [])) m (.dK (mergeK [] [(Sum.inl 0, V.bl true)])) b = some o := fun b o hb => by
        have := ne_of_none hb hm
        rw [upd_ne this, upd_ne this]; exact hb
      refine ⟨fun b o hb => kp _ _ (sH _ _ hb), ⟨kp _ _ c3, cn, fun e he => ?_, by simp⟩, upd_same, mn, Nat.le_refl 1, fun k => ?_, by simp, fun e he => ?_, fun e he => ?_⟩
      · rw [List.mem_singleton.mp he]
        exact ⟨kp _ _ u3, kp _ _ r3, hr, nrc⟩
      · show (valV (putK [] (Sum.inl (0 : Int)) (.bl true)) (Sum.inl (k : Int))).isSome = _
        rw [valV_put]
        by_cases h : k = 0
        · rw [if_pos (by rw [h]; rfl), h]; rfl
        · rw [if_neg (fun z => h (by injection z with z; omega))]
          simp [valV_nil]
          omega
      · rw [List.mem_singleton.mp he]
        exact gs
      · rw [List.mem_singleton.mp he]
        exact Nat.zero_le _
    refine ⟨fun k σ H' => ∃ (i : Nat) (es : List En) (kvs : List (Key × V)) (z4 z5 z6 z7 : Option V), k = t.steps.length - i ∧ i ≤ t.steps.length ∧ σ = [some (.ref a), some (.ref c), some (.ref m), some (.int i), z4, z5, z6, z7] ∧ FI H t.steps.length c m i H' es kvs ∧ bfsL (2 ^ t.many) t.next (t.steps.length - i) i (es.map En.p) = firsts t, ⟨_, 0, _, _, _, _, _, _, rfl, Nat.zero_le _, rfl, I0, rfl⟩, ?_⟩
    rintro k σ H1 ⟨i, es, kvs, z4, z5, z6, z7, rfl, hi, rfl, I, hf⟩
    have el := I.len
    refine ⟨_, rfl, _, rfl, c, _, rfl, .inl (.inl (.inl I.rows.at_)), _, _, rfl, rfl, _, rfl, ?_⟩
    by_cases hlt : i < es.length
    · rw [decide_eq_true (show (i : Int) < ((es.map fun e => V.ref e.t).length : Nat) by rw [List.length_map]; omega)]
      refine iteT ⟨_, fun σ' H' (w : ∃ (es : List En) (kvs : List (Key × V)) (z4 z5 z6 z7 : Option V), σ' = [some (.ref a), some (.ref c), some (.ref m), some (.int ((i + 1 : Nat) : Int)), z4, z5, z6, z7] ∧ FI H t.steps.length c m (i + 1) H' es kvs ∧ bfsL (2 ^ t.many) t.next (t.steps.length - (i + 1)) (i + 1) (es.map En.p) = firsts t) => by
        obtain ⟨es, kvs, z4, z5, z6, z7, h1, h2, h3⟩ := w
        exact ⟨t.steps.length - (i + 1), by omega, i + 1, es, kvs, z4, z5, z6, z7, rfl, by omega, h1, h2, h3⟩, ?_⟩
      have hei := List.getElem?_eq_getElem hlt
      generalize es[i] = e at hei
      have em := List.mem_of_getElem? hei
      obtain ⟨et, er, _, _⟩ := I.rows.each e em
      have en := I.small e em
      have es_ := I.short e em
      refine ⟨_, rfl, _, rfl, c, _, i, V.ref e.t, rfl, rfl, .inl (.inl I.rows.at_), atI_nat (by rw [List.getElem?_map, hei]; rfl), e.t, [.int (e.n : Int), .ref e.r], rfl, .inl (.inl et), rfl, _, _, rfl, _, _, rfl, rfl, ?_⟩
      obtain ⟨l, hl⟩ : ∃ l, t.steps[e.n]? = some l := ⟨_, List.getElem?_eq_getElem en⟩
      have ll : l.length = 2 ^ t.many := g.line l (List.mem_of_getElem? hl)
      obtain ⟨ra, hya, hra⟩ := hrow e.n l hl
      have sa : SqT K H1 a [.int (t.many : Int), .ref b, .ref cc] := .inl (.inl (I.same _ _ ha))
      have sb : SqL K H1 b ys := .inl (.inl (I.same _ _ hb))
      have sq : SqL K H1 ra (natV l) := .inl (.inl (I.same _ _ hra))
      have sq0 : SqL K H ra (natV l) := .inl (.inl hra)
      refine ⟨_, rfl, a, _, 1, _, rfl, rfl, sa, rfl, _, rfl, b, ys, _, _, rfl, rfl, sb, atI_nat hya, ra, natV l, rfl, sq, ?_⟩
      refine for_it walk_enum (fun j σ H2 => ∃ (es2 : List En) (kvs2 : List (Key × V)) (z6 z7 : Option V), σ = [some (.ref a), some (.ref c), some (.ref m), some (.int i), some (.int e.n), some (.ref e.r), z6, z7] ∧ FI H t.steps.length c m (i + 1) H2 es2 kvs2 ∧ e ∈ es2 ∧ es2.map En.p = kidsTo t.next (es.map En.p) e.n e.row j) ⟨es, kvs, _, _, rfl, I.up, em, rfl⟩ (fun j σ H2 _ ⟨_, _, _, _, _, I2, _⟩ => I2.same.seq sq0) ?_ ?_
      · rintro j x σ H2 H3' hj ⟨es2, kvs2, z6, z7, rfl, I2, em2, hk⟩ ⟨T', x1, x2, rfl, hT, rfl, f1, f2⟩
        cases f1
        have f2 : (natV l)[j]? = some x2 := f2
        obtain ⟨bb, hbb, rfl⟩ := nat_get f2
        have jl : j < l.length := (List.getElem?_eq_some_iff.mp hbb).1
        obtain ⟨l', hl', hn', hs'⟩ := g.next en (c := j) (by omega)
        rw [hl] at hl'
        cases hl'
        rw [hbb] at hn'
        have hbn : bb = t.next e.n j := Option.some.inj hn'
        refine ⟨T', [.int j, .int bb], rfl, .inl (.inl upd_same), rfl, _, _, rfl, _, _, rfl, rfl, ?_⟩
        have I3 := I2.to (same_new' (o := .tup [.int (j : Int), .int (bb : Int)]) hT)
        revert I3
        generalize (upd H2 T' (.tup [V.int (j : Int), V.int (bb : Int)])) = H3
        intro I3
        refine ⟨_, rfl, _, rfl, m, _, rfl, DGet.k (k := Sum.inl (bb : Int)) I3.dict, _, rfl, ?_⟩
        rw [I3.seen bb]
        have ea : (kidsTo t.next (es.map En.p) e.n e.row j).any (fun x => x.1 == t.next e.n j) = es2.any fun e => e.n == bb := by
          rw [← hk, List.any_map, hbn]
          rfl
        cases ha2 : es2.any fun e => e.n == bb with
        | true =>
          refine iteF ⟨es2, kvs2, _, _, rfl, I3, em2, ?_⟩
          rw [hk]
          show _ = if _ then _ else _
          rw [if_pos (ea.trans ha2)]
        | false =>
          have el2 := I3.len
          have kf := I3.few
          obtain ⟨et3, er3, _, _⟩ := I3.rows.each e em2
          have es3 := I3.short e em2
          refine iteT ⟨_, rfl, _, rfl, m, _, rfl, DPut.k (k := Sum.inl (bb : Int)) I3.dict (lt1 (by omega)), ?_⟩
          have rm : e.r ≠ m := ne_obj er3 I3.dict (fun z => by cases z)
          have cm : c ≠ m := ne_obj I3.rows.at_ I3.dict (fun z => by cases z)
          have er4 : upd H3 m (.dK (putK kvs2 (Sum.inl (bb : Int)) (.bl true))) e.r = some (.lst (natV e.row)) := by rw [upd_ne rm]; exact er3
          have c4 : upd H3 m (.dK (putK kvs2 (Sum.inl (bb : Int)) (.bl true))) c = some (.lst (es2.map fun e => V.ref e.t)) := by rw [upd_ne cm]; exact I3.rows.at_
          refine ⟨_, rfl, .inl ⟨rfl, _, .inl (.inl c4)⟩, _, rfl, _, rfl, _, rfl, le1 (by show 1 ≤ 1000; decide), fun l1 hl1 => ?_⟩
          have sl := same_new' (o := .lst [.int (j : Int)]) hl1
          refine ⟨e.r, l1, _, _, rfl, rfl, sl _ _ er4, upd_same, le1 (by rw [List.length_map]; show _ + 1 ≤ 1000; omega), fun q1 hq1 => ?_⟩
          have sq1 := same_new' (o := .lst (natV e.row ++ [.int (j : Int)])) hq1
          refine ⟨le1 (by show 2 ≤ 1000; decide), fun u1 hu1 => ?_⟩
          have su1 := same_new' (o := .tup [.int (bb : Int), .ref q1]) hu1
          refine ⟨c, _, _, rfl, rfl, su1 _ _ (sq1 _ _ (sl _ _ c4)), lt1 (by rw [List.length_map]; omega), ?_⟩
          refine ⟨es2 ++ [⟨bb, e.row ++ [j], u1, q1⟩], _, _, _, rfl, I3.add em2 (by omega) (by rw [hbn]; exact hs') ha2 rfl hl1 rfl hq1 rfl hu1 rfl, List.mem_append_left _ em2, ?_⟩
          rw [List.map_append, hk]
          show _ = if _ then _ else _
          rw [if_neg (by rw [ea, ha2]; decide), hbn]
          rfl
      · rintro σ H2 ⟨es2, kvs2, z6, z7, rfl, I2, em2, hk⟩
        refine ⟨_, rfl, _, _, rfl, rfl, ?_⟩
        refine ⟨es2, kvs2, _, _, _, _, rfl, I2, ?_⟩
        rw [hk, ← hf, show t.steps.length - i = (t.steps.length - (i + 1)) + 1 by omega, bfsL, List.getElem?_map, hei]
        show _ = bfsL _ _ _ _ (kidsTo _ _ e.n e.row _)
        rw [show (natV l).length = 2 ^ t.many from (List.length_map ..).trans ll]
    · rw [decide_eq_false (show ¬ (i : Int) < ((es.map fun e => V.ref e.t).length : Nat) by rw [List.length_map]; omega)]
      refine iteF ⟨_, rfl, q c H1 es I.same I.rows ?_ el fun e he => ⟨I.small e he, Nat.le_trans (I.short e he) hi⟩⟩
      rw [← hf, bfsL_stop (by rw [List.getElem?_map, List.getElem?_eq_none (by omega)]; rfl)]
def spReached : Sp := fun vs H Q _ => ∃ (x : V) (t : Tb), vs = [x] ∧ Dt H x t.d ∧ t.Good ∧ Nice t.d ∧ t.steps.length ≤ 1000 ∧ ∀ (c : Addr) (H' : Hp) (es : List En), Same H H' → RowsAt H H' c es → es.map En.p = firsts t → es.length ≤ t.steps.length → (∀ e ∈ es, e.n < t.steps.length ∧ e.row.length ≤ t.steps.length) → Q (.ref c) H'
theorem ok_reached (T : Tx K mg) : FnOk P w K mg base CX0 6 T.a_reached T.d_reached ["table"] spReached := by
  have G_check_table := ok_check_table (P := P) (w := w) (base := base) T
  have G_first_rows := ok_first_rows (P := P) (w := w) (base := base) T
  refine bodyU0 T.F_reached sc_reached (fun vs H Q E h => ?_) (fun cdv A outer s H vs Q E hr h => ?_)
  · obtain ⟨x, t, rfl, _⟩ := h; rfl
  · obtain ⟨x, t, rfl, hx, g, nd, hz, q⟩ := h
    refine ⟨_, (pss_cons (ps_expr (pe_call G_check_table (hr.mono (by decide)) (by rfl) T.g_check_table T.F_check_table.kp T.b_check_table .nil pass0 (pa_cons (pv 0) pa_nil)))
      (pss_one (ps_ret (pe_call G_first_rows (hr.mono (by decide)) (by rfl) T.g_first_rows T.F_first_rows.kp T.b_first_rows .nil pass0 (pa_cons (pv 0) pa_nil))))), ?_⟩
    refine ⟨_, rfl, _, _, rfl, hx, nd, good_form g, fun H1 e1 => ?_⟩
    exact ⟨_, rfl, _, t, rfl, hx.to e1, g, hz, fun c H' es s r h1 h2 h3 => q c H' es (e1.trans s) (r.from e1) h1 h2 h3⟩
def firstEnd (t : Tb) : Option (List Nat) := ((firsts t).find? fun p => t.ends.getD p.1 false).map (·.2)
/-- the first row to an end, laid new, or None -/
def spTaken : Sp := fun vs H Q _ => ∃ (x : V) (t : Tb), vs = [x] ∧ Dt H x t.d ∧ t.Good ∧ Nice t.d ∧ t.steps.length ≤ 1000 ∧
  (firstEnd t = none → ∀ H', Same H H' → Q .non H') ∧ ∀ row, firstEnd t = some row → row.length ≤ t.steps.length → ∀ (r : Addr) (H' : Hp), Same H H' → H r = none → H' r = some (.lst (natV row)) → Q (.ref r) H'
theorem ok_first_taken (T : Tx K mg) : FnOk P w K mg base CX0 6 T.a_first_taken T.d_first_taken ["table"] spTaken := by
  have G_check_table := ok_check_table (P := P) (w := w) (base := base) T
  have G_first_rows := ok_first_rows (P := P) (w := w) (base := base) T
  have G_table_ends := ok_table_ends (P := P) (w := w) (base := base) T
  refine bodyU0 T.F_first_taken sc_first_taken (fun vs H Q E h => ?_) (fun cdv A outer s H vs Q E hr h => ?_)
  · obtain ⟨x, t, rfl, _⟩ := h; rfl
  · obtain ⟨x, t, rfl, hx, g, nd, hz, q1, q2⟩ := h
    refine ⟨_, (pss_cons (ps_expr (pe_call G_check_table (hr.mono (by decide)) (by rfl) T.g_check_table T.F_check_table.kp T.b_check_table .nil pass0 (pa_cons (pv 0) pa_nil)))
      (pss_cons (ps_for PassesOwn.never rfl (pi_list (pe_call G_first_rows (hr.mono (by decide)) (by rfl) T.g_first_rows T.F_first_rows.kp T.b_first_rows .nil pass0 (pa_cons (pv 0) pa_nil))) (pg_tup (by rfl) (pgs_cons (pg_name (i := 1) sc_first_taken.nd rfl (Or.inl rfl)) (pgs_cons (pg_name (i := 2) sc_first_taken.nd rfl (Or.inl rfl)) pgs_nil))) (pss_one (ps_if (pt_val (pe_call G_table_ends (hr.mono (by decide)) (by rfl) T.g_table_ends T.F_table_ends.kp T.b_table_ends .nil pass0 (pa_cons (pv 0) (pa_cons (pv 1) pa_nil)))) (pss_one (ps_ret (pv 2))) pss_nil)))
      (pss_one (ps_ret pe_non)))), ?_⟩
    refine ⟨_, rfl, _, _, rfl, hx, nd, good_form g, fun H1 e1 => ?_⟩
    refine ⟨_, rfl, _, t, rfl, hx.to e1, g, hz, fun c H2 es s2 R hf hl hn => ?_⟩
    have s02 := e1.trans s2
    have R0 := R.from e1
    refine ⟨c, rfl, ⟨_, .inl (.inl R.at_)⟩, ?_⟩
    refine for_list (K := K) (a := c) (xs := es.map fun e => V.ref e.t) (fun i σ H' => H' = H2 ∧ (∃ z1 z2 : Option V, σ = [some x, z1, z2]) ∧ ∀ j, j < i → ∀ e, es[j]? = some e → t.ends.getD e.n false = false) ⟨rfl, ⟨_, _, rfl⟩, fun j hj => by omega⟩ (fun i σ H' _ e => by rw [e.1]; exact .inl (.inl R.at_)) ?_ ?_
    · rintro i v σ H' hi ⟨rfl, ⟨z1, z2, rfl⟩, hno⟩
      rw [List.getElem?_map] at hi
      obtain ⟨e, he, rfl⟩ := Option.map_eq_some_iff.mp hi
      have em := List.mem_of_getElem? he
      obtain ⟨et, er, en, _⟩ := R0.each e em
      have ns := (hn e em).1
      have ne : e.n < t.ends.length := by rw [g.same]; exact ns
      refine ⟨e.t, [.int (e.n : Int), .ref e.r], rfl, .inl (.inl et), rfl, _, _, rfl, _, _, rfl, rfl, ?_⟩
      refine ⟨_, rfl, _, rfl, _, t, e.n, .bl (t.ends.getD e.n false), rfl, hx.to s02, ?_, ?_⟩
      · rw [List.getElem?_map, List.getElem?_eq_getElem ne, List.getD_eq_getElem?_getD, List.getElem?_eq_getElem ne]
        rfl
      refine ⟨_, rfl, ?_⟩
      cases hb : t.ends.getD e.n false with
      | true =>
        refine iteT ⟨_, rfl, q2 e.row ?_ (hn e em).2 e.r H' s02 en er⟩
        unfold firstEnd
        rw [← hf, find_at (q := fun p => t.ends.getD p.1 false) (es.map En.p) i e.p (by rw [List.getElem?_map, he]; rfl) hb fun j hj y hy => ?_]
        · rfl
        · rw [List.getElem?_map] at hy
          obtain ⟨f, hf, rfl⟩ := Option.map_eq_some_iff.mp hy
          exact hno j hj f hf
      | false =>
        refine iteF ⟨rfl, ⟨_, _, rfl⟩, fun j hj f hjf => ?_⟩
        by_cases h : j < i
        · exact hno j h f hjf
        · rw [show j = i by omega, he] at hjf
          cases hjf
          exact hb
    · rintro σ H' ⟨rfl, ⟨z1, z2, rfl⟩, hno⟩
      refine q1 ?_ _ s02
      unfold firstEnd
      rw [← hf, List.find?_eq_none.mpr fun y hy => ?_]
      · rfl
      · obtain ⟨f, hf, rfl⟩ := List.mem_map.mp hy
        obtain ⟨j, hj, hjf⟩ := List.getElem_of_mem hf
        have := hno j (by rw [List.length_map]; exact hj) f (by rw [List.getElem?_eq_getElem hj, hjf])
        show ¬ (t.ends.getD f.n false = true)
        rw [this]
        decide
end

end K14

set_option Elab.async false
set_option linter.all false
set_option maxRecDepth 100000
set_option maxHeartbeats 4000000
namespace K14
open PySem PySem.Spec PyProof.Rows L2 Hw

section
variable {P : Program} {w : World} {K : PySem.W.Frag} {mg : Str → Option Value} {base : Heap}
def spTwo : Sp := fun vs H Q _ => ∃ n : Nat, vs = [.int n] ∧ n ≤ 1000 ∧ Q (.int ((2 ^ n : Nat) : Int)) H
theorem ok_law_two (T : Tx K mg) : FnG P w K mg base CX0 1 T.a_law_two T.d_law_two ["_law_many"] spTwo := by
  refine bodyG0 T.F_law_two sc_law_two (fun vs H Q E h => ?_) (fun cdv A outer s H vs Q E gd hr h => ?_)
  · obtain ⟨n, rfl, _⟩ := h; rfl
  · obtain ⟨n, rfl, hn, q⟩ := h
    refine ⟨_, (pss_one (ps_ret (pe_op op_shlW pe_int (pe_callTy call_int1 (by rfl) T.z_int (by decide +kernel) (pa_cons (pv 0) pa_nil))))), ?_⟩
    refine ⟨_, rfl, .inl ⟨_, rfl, _, _, rfl, rfl, shl_ok (n := 1) (by decide) (by omega), ?_⟩⟩
    dsimp only
    rw [Int.toNat_natCast, Int.one_mul]
    rw [Int.natCast_pow] at q
    exact q
def spAfter (K : PySem.W.Frag) : Sp := fun vs H Q _ => ∃ (x : V) (t : Tb) (y : Addr) (l : List Nat), vs = [x, .ref y] ∧ Dt H x t.d ∧ t.Good ∧ H y = some (.lst (natV l)) ∧ (∀ c ∈ l, c < 2 ^ t.many) ∧ Q (.int (t.behind l : Nat)) H

theorem ok_law_behind (T : Tx K mg) : FnG P w K mg base CX0 1 T.a_law_behind T.d_law_behind ["_law_known", "_law_row_there"] (spAfter K) := by
  refine bodyG0 T.F_law_behind sc_law_behind (fun vs H Q E h => ?_) (fun cdv A outer s H vs Q E gd hr h => ?_)
  · obtain ⟨x, t, y, l, rfl, _⟩ := h; rfl
  · obtain ⟨x, t, y, l, rfl, hx, g, hy, hl, q⟩ := h
    refine ⟨_, (pss_cons (ps_set (i := 2) sc_law_behind.nd rfl (Or.inl rfl) pe_int)
      (pss_cons (ps_for PassesOwn.never rfl (pi_list (pv 1)) (pg_name (i := 3) sc_law_behind.nd rfl (Or.inl rfl)) (pss_one (ps_set (i := 2) sc_law_behind.nd rfl (Or.inl rfl) (pe_ix (ix_listK (K := K) rfl) (pe_ix (ix_listK (K := K) rfl) (pe_ix (ix_tupK (K := K) rfl) (pv 0) pe_int (fun _ _ => rfl)) (pv 2) (fun _ _ => rfl)) (pv 3) (fun _ _ => rfl)))))
      (pss_one (ps_ret (pv 2))))), ?_⟩
    obtain ⟨a, b, c, ys, rfl, ha, hb, hyl, hrow, hc, _⟩ := hx.tab
    have sa : SqT K H a [.int (t.many : Int), .ref b, .ref c] := .inl (.inl ha)
    have sb : SqL K H b ys := .inl (.inl hb)
    refine ⟨_, rfl, y, rfl, ⟨_, .inl (.inl hy)⟩, ?_⟩
    refine for_list (K := K) (a := y) (xs := natV l) (fun i σ H' => H' = H ∧ ∃ z : Option V, σ = [some (.ref a), some (.ref y), some (.int (t.behind (l.take i) : Nat)), z]) ⟨rfl, none, rfl⟩ (fun i σ H' _ e => by rw [e.1]; exact .inl (.inl hy)) ?_ ?_
    · rintro i v σ H' hi ⟨rfl, z, rfl⟩
      obtain ⟨d, hd, rfl⟩ := nat_get hi
      have bs : t.behind (l.take i) < t.steps.length := g.behind _ 0 g.some fun x hx => hl x (List.mem_of_mem_take hx)
      obtain ⟨line, h1, h2, _⟩ := g.next bs (hl d (List.mem_of_getElem? hd))
      obtain ⟨r, hr1, hr2⟩ := hrow _ _ h1
      refine ⟨_, rfl, a, _, 1, _, rfl, rfl, sa, rfl, _, rfl, b, _, _, _, rfl, rfl, sb, atI_nat hr1, _, rfl, r, _, _, _, rfl, rfl, .inl (.inl hr2), atI_nat (nat_at h2), rfl, some (.int (d : Int)), ?_⟩
      rw [Tb.behind_take hd]
      rfl
    · rintro σ H' ⟨rfl, z, rfl⟩
      rw [show (natV l).length = l.length from List.length_map .., List.take_length]
      exact ⟨_, rfl, q⟩

end

/-- the generator stands at a, its index is at most m -/
def Gn (a : Addr) (t m : Int) (H : Hp) : Prop := ∃ s c : Int, H a = some (genL s t c) ∧ GenOk s t c m
theorem GenOk.up {s t c m m' : Int} (o : GenOk s t c m) (h : m ≤ m') : GenOk s t c m' := ⟨o.s0, o.s1, o.t0, o.t1, o.c0, Int.le_trans o.c1 h⟩
theorem Gn.up {a : Addr} {t m m' : Int} {H : Hp} (g : Gn a t m H) (h : m ≤ m') : Gn a t m' H := by
  obtain ⟨s, c, e, o⟩ := g
  exact ⟨s, c, e, o.up h⟩
theorem Gn.keep {a p : Addr} {t m : Int} {H : Hp} {o : HO} (g : Gn a t m H) (h : p ≠ a) : Gn a t m (upd H p o) := by
  obtain ⟨s, c, e, k⟩ := g
  exact ⟨s, c, by rw [upd_ne h.symm]; exact e, k⟩
theorem Gn.same {a : Addr} {t m : Int} {H H' : Hp} (g : Gn a t m H) (s : Same H H') : Gn a t m H' := by
  obtain ⟨x, c, e, k⟩ := g
  exact ⟨x, c, s _ _ e, k⟩
theorem Gn.ne {a p : Addr} {t m : Int} {H : Hp} (g : Gn a t m H) (h : H p = none) : p ≠ a := fun e => by
  obtain ⟨s, c, q, _⟩ := g
  rw [e, q] at h
  cases h
theorem off_mono {D : Addr} {H H' : Hp} (e : Same H H') : Same (off D H) (off D H') := fun b o h => by
  obtain ⟨n, h⟩ := off_at h
  exact off_of n (e b o h)
theorem off_upd {D : Addr} {H : Hp} {o : HO} : off D (upd H D o) = off D H := by
  funext b
  unfold off
  by_cases h : b = D
  · rw [if_pos h, if_pos h]
  · rw [if_neg h, if_neg h, upd_ne h]
theorem SameX.new {a p : Addr} {H H' : Hp} {o : HO} (e : SameX a H H') (h : H p = none) : SameX a H (upd H' p o) := fun b x n hb => by
  rw [upd_ne (ne_of_none hb h)]
  exact e b x n hb
theorem SameX.free {a p : Addr} {t m : Int} {H H' : Hp} (e : SameX a H H') (g : Gn a t m H') (h : H' p = none) : H p = none := by
  cases q : H p with
  | none => rfl
  | some o =>
    have := e p o (g.ne h) q
    rw [h] at this
    cases this
section
variable {P : Program} {w : World} {K : PySem.W.Frag} {mg : Str → Option Value} {base : Heap}
def spRnd : Sp := fun vs H Q _ => ∃ (a : Addr) (b : Nat) (t m : Int), vs = [.ref a, .int b] ∧ Gn a t m H ∧ m + 100 < 4294967296 ∧ 0 < b ∧ b < 2 ^ 2000 ∧
  ∀ (r : Nat) (H' : Hp), r < b → SameX a H H' → Gn a t (m + 100) H' → Q (.int r) H'
theorem ok_rnd (T : Tx K mg) : FnG P w K mg base CX0 2 T.a_law_random T.d_law_random ["_law_generator_here", "_law_bound"] spRnd := by
  refine (ok_law_random T).weak fun vs H Q E h => ?_
  obtain ⟨a, b, t, m, rfl, ⟨s, c, e, ok⟩, hm, b0, b1, q⟩ := h
  have b2 : (b : Int) < 2 ^ 2000 := by
    have : ((2 ^ 2000 : Nat) : Int) = (2 : Int) ^ 2000 := by rw [Int.natCast_pow]; rfl
    rw [← this]
    exact Int.ofNat_lt.mpr b1
  refine ⟨a, b, s, t, c, m, rfl, e, ok, hm, by omega, b2, fun r s' c' r0 r1 ok' => ?_⟩
  have q := q r.toNat (upd H a (genL s' t c')) (by omega) SameX.upd ⟨s', c', upd_same, ok'⟩
  rw [Int.toNat_of_nonneg r0] at q
  exact q
def spTable : Sp := fun vs H Q _ => ∃ (a : Addr) (t m : Int) (n most : Nat), vs = [.ref a, .int n, .int most] ∧ Gn a t m H ∧ m + 20000 < 4294967296 ∧ n ≤ 3 ∧ 1 ≤ most ∧ most ≤ 5 ∧
  ∀ (x : V) (tb : Tb) (H' : Hp), SameX a H H' → Gn a t (m + 10000) H' → Dt (off a H') x tb.d → tb.Good → tb.many = n → tb.steps.length ≤ most → Q x H'
theorem ok_law_table (T : Tx K mg) : FnG P w K mg base CX0 3 T.a_law_table T.d_law_table ["_law_generator_here", "_law_many", "_law_most"] spTable := by
  have G_law_random := ok_rnd (P := P) (w := w) (base := base) T
  have G_law_two := ok_law_two (P := P) (w := w) (base := base) T
  refine bodyG0 T.F_law_table sc_law_table (fun vs H Q E h => ?_) (fun cdv A outer s H vs Q E gd hr h => ?_)
  · obtain ⟨a, t, m, n, most, rfl, _⟩ := h; rfl
  · obtain ⟨a, t, m, n, most, rfl, g0, hm, hn, m1, m5, q⟩ := h
    refine ⟨_, (pss_cons (ps_set (i := 3) sc_law_table.nd rfl (Or.inr rfl) (pe_op op_add pe_int (pe_g G_law_random gd (hr.mono (by decide)) (by rfl) T.g_law_random T.F_law_random.kp T.b_law_random .nil pass0 (pa_cons (pv 0) (pa_cons (pv 2) pa_nil)))))
      (pss_cons (ps_setLc (i := 4) (own := [("_law_stand", 5)]) (g := gName 5) (tt := tYes) rfl sc_law_table.nd rfl rfl (sw_true rfl rfl rfl (by decide +kernel)) (pi_range1 (by rfl) T.z_range (pa_cons (pv 3) pa_nil)) (blkOk_by (N := ["_law_generator_here", "_law_many", "_law_most", "_law_size", "_law_steps_there", "_law_stand", "_law_letter"]) (sc := defScope s_law_table) (by decide +kernel)) (fun _ _ _ _ _ => (pg_name (i := 5) sc_law_table.nd rfl (Or.inl rfl))) (fun _ _ _ _ _ => pts_nil) (fun _ _ _ _ _ => (pe_lc (own := [("_law_letter", 6)]) (g := gName 6) (tt := tYes) rfl sc_law_table.nd (pi_range1 (by rfl) T.z_range (pa_cons (pe_g G_law_two gd (hr.mono (by decide)) (by rfl) T.g_law_two T.F_law_two.kp T.b_law_two .nil pass0 (pa_cons (pv 1) pa_nil)) pa_nil)) (blkOk_by (by kernel_rfl)) (fun _ _ _ _ _ => (pg_name (i := 6) sc_law_table.nd rfl (Or.inl rfl))) (fun _ _ _ _ _ => pts_nil) (fun _ _ _ _ _ => (pe_g G_law_random gd (hr.mono (by decide)) (by rfl) T.g_law_random T.F_law_random.kp T.b_law_random .nil pass0 (pa_cons (pv 0) (pa_cons (pv 3) pa_nil)))))))
      (pss_one (ps_ret (pe_tup (pa_cons (pv 1) (pa_cons (pv 4) (pa_cons (pe_lc (own := [("_law_stand", 5)]) (g := gName 5) (tt := tYes) rfl sc_law_table.nd (pi_range1 (by rfl) T.z_range (pa_cons (pv 3) pa_nil)) (blkOk_by (N := ["_law_generator_here", "_law_many", "_law_most", "_law_size", "_law_steps_there", "_law_stand", "_law_letter"]) (sc := defScope s_law_table) (by decide +kernel)) (fun _ _ _ _ _ => (pg_name (i := 5) sc_law_table.nd rfl (Or.inl rfl))) (fun _ _ _ _ _ => pts_nil) (fun _ _ _ _ _ => (pe_cmpR op_eq (pe_g G_law_random gd (hr.mono (by decide)) (by rfl) T.g_law_random T.F_law_random.kp T.b_law_random .nil pass0 (pa_cons (pv 0) (pa_cons pe_int pa_nil))) pe_int (nomark _)))) pa_nil)))))))), ?_⟩
    have big : ∀ {b : Nat}, b ≤ 10 → b < 2 ^ 2000 := fun {b} hb => by
      have : (10 : Nat) < 2 ^ 2000 := by decide +kernel
      omega
    have n8 : (2 : Nat) ^ n ≤ 8 := Nat.le_trans (Nat.pow_le_pow_right (by decide) hn) (by decide)
    have c8 : ((2 ^ n : Nat) : Int) ≤ 8 := Int.ofNat_le.mpr n8
    have c0 : (0 : Int) ≤ ((2 ^ n : Nat) : Int) := Int.natCast_nonneg _
    refine ⟨_, rfl, _, rfl, a, most, t, m, rfl, g0, by omega, by omega, big (by omega), fun r H1 hr1 x1 g1 => ?_⟩
    obtain ⟨z, hz, z1, z5⟩ : ∃ z : Nat, (1 : Int) + (r : Int) = (z : Int) ∧ 1 ≤ z ∧ z ≤ most := ⟨1 + r, by omega, by omega, by omega⟩
    refine ⟨_, _, rfl, rfl, ?_⟩
    dsimp only
    rw [hz]
    refine ⟨_, rfl, z, rfl, by omega, by omega, fun D hD => ?_⟩
    refine lc_range (lo := 0) (n := z) (fun i H' => SameX a H1 H' ∧ Gn a t (m + 100 + 1000 * i) H' ∧ ∃ (vs : List V) (ls : List (List Nat)), H' D = some (.lst vs) ∧ DtAll (off D (off a H')) vs (ls.map fun l => .list (natD l)) ∧ vs.length = i ∧ ls.length = i ∧ ∀ l ∈ ls, l.length = 2 ^ n ∧ ∀ x ∈ l, x < z)
      ⟨SameX.of (same_new' hD), (g1.same (same_new' hD)).up (by omega), [], [], upd_same, .nil, rfl, rfl, fun l hl => nomatch hl⟩ ?_ ?_
    · rintro i H2 hi ⟨x2, g2, vs, ls, e2, dt2, lv, ll, hls⟩
      refine ⟨rfl, yes_if ?_⟩
      refine ⟨_, rfl, n, rfl, by omega, _, rfl, ?_⟩
      refine ⟨by omega, by omega, fun D2 hD2 => ?_⟩
      have nD : D2 ≠ a := g2.ne hD2
      have nDD : D ≠ D2 := ne_of_none e2 hD2
      refine lc_range (lo := 0) (n := 2 ^ n) (fun j H' => SameX a H2 H' ∧ Gn a t (m + 100 + 1000 * i + 100 * j) H' ∧ ∃ l : List Nat, H' D2 = some (.lst (natV l)) ∧ l.length = j ∧ ∀ x ∈ l, x < z)
        ⟨SameX.of (same_new' hD2), (g2.same (same_new' hD2)).up (by omega), [], upd_same, rfl, fun x hx => nomatch hx⟩ ?_ ?_
      · rintro j H3 hj ⟨x3, g3, l, e3, le3, hl3⟩
        refine ⟨rfl, yes_if ?_⟩
        refine ⟨_, rfl, _, rfl, a, z, t, _, rfl, g3, by omega, by omega, big (by omega), fun r2 H4 hr2 x4 g4 => ?_⟩
        refine ⟨natV l, x4 _ _ nD e3, by rw [List.length_map]; exact small1000 (by omega), SameX.new (x3.trans x4) hD2, (g4.keep nD).up (by omega), l ++ [r2], ?_, by rw [List.length_append, le3]; rfl, fun x hx => ?_⟩
        · rw [upd_same]
          show _ = some (HO.lst ((l ++ [r2]).map _))
          rw [List.map_append]
          rfl
        · rcases List.mem_append.mp hx with h | h
          · exact hl3 x h
          · rw [List.mem_singleton.mp h]; exact hr2
      · rintro H3 ⟨x3, g3, l, e3, le3, hl3⟩
        have nDa : D ≠ a := g1.ne hD
        refine ⟨vs, x3 _ _ nDa e2, by rw [lv]; exact small1000 (by omega), SameX.new (x2.trans x3) hD, (g3.keep nDa).up (by omega), vs ++ [.ref D2], ls ++ [l], upd_same, ?_, by rw [List.length_append, lv]; rfl, by rw [List.length_append, ll]; rfl, fun l' hl' => ?_⟩
        · rw [show off D (off a (upd H3 D (.lst (vs ++ [.ref D2])))) = off D (off a H3) by
            funext b
            unfold off
            by_cases h : b = D
            · rw [if_pos h, if_pos h]
            · rw [if_neg h, if_neg h, upd_ne h]]
          rw [List.map_append]
          exact (dt2.to (off_mono x3.off)).app (.one (Dt.nats (off_of nDD.symm (off_of nD e3))))
        · rcases List.mem_append.mp hl' with h | h
          · exact hls l' h
          · rw [List.mem_singleton.mp h]
            exact ⟨le3, hl3⟩
    · rintro H2 ⟨x2, g2, vs, ls, e2, dt2, lv, ll, hls⟩
      have nDa : D ≠ a := g1.ne hD
      refine ⟨_, rfl, _, rfl, _, rfl, z, rfl, by omega, by omega, fun D2 hD2 => ?_⟩
      have nD : D2 ≠ a := g2.ne hD2
      refine lc_range (lo := 0) (n := z) (fun j H' => SameX a H2 H' ∧ Gn a t (m + 5100 + 100 * j) H' ∧ ∃ l : List Bool, H' D2 = some (.lst (l.map V.bl)) ∧ l.length = j)
        ⟨SameX.of (same_new' hD2), (g2.same (same_new' hD2)).up (by omega), [], upd_same, rfl⟩ ?_ ?_
      · rintro j H3 hj ⟨x3, g3, l, e3, le3⟩
        refine ⟨rfl, yes_if ?_⟩
        refine ⟨_, rfl, a, 2, t, _, rfl, g3, by omega, by omega, big (by omega), fun r2 H4 hr2 x4 g4 => ?_⟩
        refine ⟨rfl, l.map V.bl, x4 _ _ nD e3, by rw [List.length_map]; exact small1000 (by omega), SameX.new (x3.trans x4) hD2, (g4.keep nD).up (by omega), l ++ [decide (V.int (r2 : Int) = V.int 1)], ?_, by rw [List.length_append, le3]; rfl⟩
        rw [upd_same, List.map_append]
        rfl
      · rintro H3 ⟨x3, g3, l, e3, le3⟩
        refine ⟨by show 3 ≤ sizeLine; rw [sizeLine_eq]; decide, fun p hp => ?_⟩
        have np : p ≠ a := g3.ne hp
        have sn : Same H3 (upd H3 p (.tup [.int (n : Int), .ref D, .ref D2])) := same_new' hp
        have oD : off a (upd H3 p (.tup [.int (n : Int), .ref D, .ref D2])) D = some (.lst vs) := off_of nDa (sn _ _ (x3 _ _ nDa e2))
        have oD2 : off a (upd H3 p (.tup [.int (n : Int), .ref D, .ref D2])) D2 = some (.lst (l.map V.bl)) := off_of nD (sn _ _ e3)
        refine q (.ref p) ⟨n, ls, l⟩ _ ((x1.trans (x2.trans x3)).trans (SameX.of sn)) ((g3.keep np).up (by omega)) ?_ ⟨by show n ≤ 6; omega, by show 0 < ls.length; omega, by show l.length = ls.length; omega, fun l' hl' => (hls l' hl').1, fun l' hl' x hx => ?_⟩ rfl (by show ls.length ≤ most; omega)
        · refine .tup (off_of np upd_same) (.cons (.int _) (.cons (.lst oD ?_) (.cons (.lst oD2 (DtAll.bls l)) .nil)))
          exact (dt2.to off_same).to ((x3.trans (SameX.of sn)).off)
        · show x < ls.length
          rw [ll]
          exact (hls l' hl').2 x hx
end

theorem rowN_len {m : Nat} (m0 : 0 < m) : ∀ i p, p < m ^ i → (rowN m (offN m i + p)).length = i
  | 0, p, h => by
    have h : p < 1 := h
    rw [show p = 0 by omega]
    show (rowN m 0).length = 0
    rw [rowN]
    rfl
  | i + 1, p, h => by
    have h : p < m ^ i * m := h
    have ih := rowN_len m0 i (p / m) ((Nat.div_lt_iff_lt_mul m0).mpr h)
    show (rowN m (offN m i * m + 1 + p)).length = i + 1
    rw [show offN m i * m + 1 + p = (offN m i * m + p) + 1 by omega, rowN, dif_pos m0, List.length_append, show (offN m i * m + p) / m = offN m i + p / m by rw [Nat.mul_comm, Nat.mul_add_div m0], ih]
    rfl
/-- the rows from number b on, as they are laid -/
def RL (H : Hp) (m b : Nat) (rs : List Addr) : Prop := ∀ (i : Nat) (r : Addr), rs[i]? = some r → H r = some (.lst (natV (rowN m (b + i))))
theorem RL.same {H H' : Hp} {m b : Nat} {rs : List Addr} (R : RL H m b rs) (s : Same H H') : RL H' m b rs := fun i r h => s _ _ (R i r h)
theorem RL.app {H : Hp} {m b : Nat} {rs ts : List Addr} (R : RL H m b rs) (T : RL H m (b + rs.length) ts) : RL H m b (rs ++ ts) := fun i r h => by
  by_cases hi : i < rs.length
  · rw [List.getElem?_append_left hi] at h
    exact R i r h
  · rw [List.getElem?_append_right (by omega)] at h
    have := T _ r h
    rwa [show b + rs.length + (i - rs.length) = b + i by omega] at this
theorem RL.nil {H : Hp} {m b : Nat} : RL H m b [] := fun i r h => by simp at h
section
variable {P : Program} {w : World} {K : PySem.W.Frag} {mg : Str → Option Value} {base : Heap}
def spRows : Sp := fun vs H Q _ => ∃ n k : Nat, vs = [.int n, .int k] ∧ n ≤ 3 ∧ k ≤ 1000 ∧ (2 ^ n) ^ k ≤ 1000 ∧ ∀ (c : Addr) (H' : Hp) (rs : List Addr), Same H H' → H c = none → H' c = some (.lst (rs.map V.ref)) → rs.length = (2 ^ n) ^ k → RL H' (2 ^ n) (offN (2 ^ n) k) rs → (∀ r ∈ rs, H r = none) → Q (.ref c) H'
theorem ok_law_rows (T : Tx K mg) : FnG P w K mg base CX0 2 T.a_law_rows T.d_law_rows ["_law_many", "_law_size"] spRows := by
  have G_law_two := ok_law_two (P := P) (w := w) (base := base) T
  refine bodyG0 T.F_law_rows sc_law_rows (fun vs H Q E h => ?_) (fun cdv A outer s H vs Q E gd hr h => ?_)
  · obtain ⟨n, k, rfl, _⟩ := h; rfl
  · obtain ⟨n, k, rfl, hn, hk, hz, q⟩ := h
    refine ⟨_, (pss_cons (ps_set (i := 2) sc_law_rows.nd rfl (Or.inl rfl) (pe_lst (pa_cons (pe_lst pa_nil) pa_nil)))
      (pss_cons (ps_for PassesOwn.never rfl (pi_range1 (by rfl) T.z_range (pa_cons (pv 1) pa_nil)) (pg_name (i := 3) sc_law_rows.nd rfl (Or.inl rfl)) (pss_cons (ps_set (i := 4) sc_law_rows.nd rfl (Or.inl rfl) (pe_lst pa_nil))
      (pss_cons (ps_for PassesOwn.never rfl (pi_list (pv 2)) (pg_name (i := 5) sc_law_rows.nd rfl (Or.inr rfl)) (pss_one (ps_set (i := 4) sc_law_rows.nd rfl (Or.inl rfl) (pe_op op_cat (pv 4) (pe_lc (own := [("_law_letter", 6)]) (g := gName 6) (tt := tYes) rfl sc_law_rows.nd (pi_range1 (by rfl) T.z_range (pa_cons (pe_g G_law_two gd (hr.mono (by decide)) (by rfl) T.g_law_two T.F_law_two.kp T.b_law_two .nil pass0 (pa_cons (pv 0) pa_nil)) pa_nil)) (blkOk_by (N := ["_law_many", "_law_size", "_law_found", "_law_turn", "_law_longer", "_law_row_there", "_law_letter"]) (sc := defScope s_law_rows) (by decide +kernel)) (fun _ _ _ _ _ => (pg_name (i := 6) sc_law_rows.nd rfl (Or.inl rfl))) (fun _ _ _ _ _ => pts_nil) (fun _ _ _ _ _ => (pe_op op_cat (pv 5) (pe_lst (pa_cons (pv 6) pa_nil)))))))))
      (pss_one (ps_set (i := 2) sc_law_rows.nd rfl (Or.inl rfl) (pv 4))))))
      (pss_one (ps_ret (pv 2))))), ?_⟩
    have le1 : ∀ {n : Nat}, n ≤ 10000 → n ≤ sizeLine := fun h => by rw [sizeLine_eq]; omega
    have m0 : 0 < 2 ^ n := Nat.pow_pos (by decide)
    have m8 : 2 ^ n ≤ 8 := Nat.le_trans (Nat.pow_le_pow_right (by decide) hn) (by decide)
    have pw : ∀ i, i ≤ k → (2 ^ n) ^ i ≤ 1000 := fun i hi => Nat.le_trans (Nat.pow_le_pow_right m0 hi) hz
    generalize hm : 2 ^ n = m at m0 m8 pw q
    refine ⟨Nat.zero_le _, fun r hr => ⟨le1 (by show 1 ≤ 10000; decide), fun c hc => ?_⟩⟩
    have sr : Same H (upd H r (.lst [])) := same_new' hr
    have sc : Same (upd H r (.lst [])) (upd (upd H r (.lst [])) c (.lst [.ref r])) := same_new' hc
    have r1 : (upd (upd H r (.lst [])) c (.lst [.ref r])) r = some (.lst []) := sc _ _ upd_same
    have c1 : (upd (upd H r (.lst [])) c (.lst [.ref r])) c = some (.lst [.ref r]) := upd_same
    have s1 := sr.trans sc
    have cn : H c = none := sr.free hc
    generalize (upd (upd H r (.lst [])) c (.lst [.ref r])) = H1 at r1 c1 s1
    refine ⟨_, rfl, k, rfl, by omega, by omega, ?_⟩
    refine for_range (lo := 0) (n := k) (fun i σ H' => ∃ (c : Addr) (rs : List Addr) (z3 z4 z5 z6 : Option V), σ = [some (.int n), some (.int k), some (.ref c), z3, z4, z5, z6] ∧ Same H H' ∧ H c = none ∧ H' c = some (.lst (rs.map V.ref)) ∧ rs.length = m ^ i ∧ RL H' m (offN m i) rs ∧ ∀ r ∈ rs, H r = none)
      ⟨c, [r], _, _, _, _, rfl, s1, cn, c1, rfl, fun i x h => ?_, fun x hx => by rw [List.mem_singleton.mp hx]; exact hr⟩ ?_ ?_
    · cases i with
      | zero =>
        cases h
        rw [r1]
        show _ = some (HO.lst (natV (rowN m 0)))
        rw [rowN]
        rfl
      | succ i => simp at h
    · rintro i σ H2 hi ⟨c, rs, z3, z4, z5, z6, rfl, s2, cn, c2, lr, R, fr⟩
      have li := pw i (by omega)
      refine ⟨Nat.zero_le _, fun d hd => ?_⟩
      have s3 : Same H2 (upd H2 d (.lst [])) := same_new' hd
      have d3 : (upd H2 d (.lst [])) d = some (.lst []) := upd_same
      have c3 := s3 _ _ c2
      have s3' := s2.trans s3
      have dn : H d = none := s2.free hd
      generalize (upd H2 d (.lst [])) = H3 at s3 d3 c3 s3'
      refine ⟨_, rfl, c, rfl, ⟨_, .inl (.inl c3)⟩, ?_⟩
      refine for_list (K := K) (a := c) (xs := rs.map V.ref) (fun p σ H' => ∃ (d : Addr) (ts : List Addr) (z5 z6 : Option V), σ = [some (.int n), some (.int k), some (.ref c), some (.int (0 + (i : Int))), some (.ref d), z5, z6] ∧ Same H3 H' ∧ H d = none ∧ H' d = some (.lst (ts.map V.ref)) ∧ ts.length = p * m ∧ RL H' m (offN m (i + 1)) ts ∧ ∀ r ∈ ts, H r = none)
        ⟨d, [], _, _, rfl, Same.refl _, dn, d3, by simp, RL.nil, fun r h => nomatch h⟩ (fun p σ H' _ ⟨_, _, _, _, _, e, _⟩ => .inl (.inl (e _ _ c3))) ?_ ?_
      · rintro p x σ H4 hp ⟨d, ts, z5, z6, rfl, s4, dn, d4, lt, R4, fr4⟩
        rw [List.getElem?_map] at hp
        obtain ⟨r, hr2, rfl⟩ := Option.map_eq_some_iff.mp hp
        have pl : p < rs.length := (List.getElem?_eq_some_iff.mp hr2).1
        have hrow := s4 _ _ (s3 _ _ (R p r hr2))
        have sH4 := s3'.trans s4
        have few : p * m + m ≤ 8000 := by
          have : (p + 1) * m ≤ 1000 * 8 := Nat.mul_le_mul (by omega) m8
          rw [Nat.succ_mul] at this
          omega
        refine ⟨_, rfl, _, rfl, n, rfl, by omega, m, by rw [hm], by omega, by omega, fun D hD => ?_⟩
        refine lc_range (lo := 0) (n := m) (fun j H' => Same H4 H' ∧ ∃ us : List Addr, H' D = some (.lst (us.map V.ref)) ∧ us.length = j ∧ RL H' m (offN m (i + 1) + p * m) us ∧ ∀ r ∈ us, H r = none ∧ r ≠ D) ⟨same_new' hD, [], upd_same, rfl, RL.nil, fun r h => nomatch h⟩ ?_ ?_
        · rintro j H5 hj ⟨s5, us, e5, lu, R5, fr5⟩
          refine ⟨rfl, yes_if ?_⟩
          refine ⟨_, rfl, _, rfl, le1 (by show 1 ≤ 10000; decide), fun l hl => ?_⟩
          have sl := same_new' (o := .lst [.int (0 + (j : Int))]) hl
          refine ⟨r, l, _, _, rfl, rfl, sl _ _ (s5 _ _ hrow), upd_same, ?_, fun x hx => ?_⟩
          · have : (rowN m (offN m i + p)).length = i := rowN_len m0 i p (by omega)
            exact le1 (by show (natV _).length + 1 ≤ _; unfold natV; rw [List.length_map]; omega)
          have sx := same_new' (o := .lst (natV (rowN m (offN m i + p)) ++ [.int (0 + (j : Int))])) hx
          have e7 := sx _ _ (sl _ _ e5)
          have s57 := sl.trans sx
          have x7 : (upd (upd H5 l (.lst [.int (0 + (j : Int))])) x (.lst (natV (rowN m (offN m i + p)) ++ [.int (0 + (j : Int))]))) x = some (.lst (natV (rowN m (offN m (i + 1) + p * m + j)))) := by
            rw [upd_same]
            have e : offN m (i + 1) + p * m + j = (offN m i + p) * m + j + 1 := by
              show offN m i * m + 1 + p * m + j = _
              rw [Nat.add_mul]; omega
            rw [e, rowN_child m0 hj]
            unfold natV
            rw [List.map_append, Int.zero_add]
            rfl
          have xn : H x = none := (sH4.trans (s5.trans sl)).free hx
          generalize (upd (upd H5 l (.lst [.int (0 + (j : Int))])) x (.lst (natV (rowN m (offN m i + p)) ++ [.int (0 + (j : Int))]))) = H7 at e7 s57 x7 ⊢
          have xD : x ≠ D := (ne_of_none (sl _ _ e5) hx).symm
          have up7 : ∀ b o, H7 b = some o → b ≠ D → upd H7 D (.lst (us.map V.ref ++ [.ref x])) b = some o := fun b o h n => by rw [upd_ne n]; exact h
          refine ⟨_, e7, by rw [List.length_map, sizeLine_eq]; omega, fun b o hb => up7 _ _ (s57 _ _ (s5 _ _ hb)) (ne_of_none hb hD), us ++ [x], by rw [upd_same, List.map_append]; rfl, by rw [List.length_append, lu]; rfl, ?_, fun y hy => ?_⟩
          · refine RL.app (fun a y hy => up7 _ _ (s57 _ _ (R5 a y hy)) (fr5 y (List.mem_of_getElem? hy)).2) (fun a y hy => ?_)
            cases a with
            | zero =>
              cases hy
              rw [lu]
              exact up7 _ _ x7 xD
            | succ a => simp at hy
          · rcases List.mem_append.mp hy with h | h
            · exact fr5 y h
            · rw [List.mem_singleton.mp h]
              exact ⟨xn, xD⟩
        · rintro H5 ⟨s5, us, e5, lu, R5, fr5⟩
          refine ⟨d, D, _, _, rfl, rfl, s5 _ _ d4, e5, le1 (by rw [List.length_map, List.length_map]; omega), fun d' hd' => ?_⟩
          have s6 := same_new' (o := .lst (ts.map V.ref ++ us.map V.ref)) hd'
          refine ⟨d', ts ++ us, _, _, rfl, s4.trans (s5.trans s6), (sH4.trans s5).free hd', by rw [upd_same, List.map_append], by rw [List.length_append, lt, lu, Nat.succ_mul], ?_, fun y hy => ?_⟩
          · refine RL.app (R4.same (s5.trans s6)) ?_
            rw [lt]
            exact R5.same s6
          · rcases List.mem_append.mp hy with h | h
            · exact fr4 y h
            · exact (fr5 y h).1
      · rintro σ H4 ⟨d, ts, z5, z6, rfl, s4, dn, d4, lt, R4, fr4⟩
        refine ⟨_, rfl, d, ts, _, _, _, _, rfl, s3'.trans s4, dn, d4, ?_, R4, fr4⟩
        rw [lt, List.length_map, lr]
        rfl
    · rintro σ H2 ⟨c, rs, z3, z4, z5, z6, rfl, s2, cn, c2, lr, R, fr⟩
      exact ⟨_, rfl, q c H2 rs s2 cn c2 lr R fr⟩
end

end K14

set_option Elab.async false
set_option linter.all false
set_option maxRecDepth 100000
set_option maxHeartbeats 4000000
namespace K14
open PySem PySem.Spec PyProof.Rows L2 Hw

abbrev mk : Str := "marked"
theorem nice_nil : Nice (.list []) := Nice.listInt (l := []) (fun x h => nomatch h) (by decide)
theorem nice_mk : Nice (.str mk) := ⟨by decide +kernel, by decide +kernel, by decide +kernel⟩
theorem eqv_nil {x : PyData} {l : List PyData} : PyData.eqv (.list (x :: l)) (.list []) = false := by
  simp only [PyData.eqv, PyData.eqvAll]
theorem eqv_nil0 : PyData.eqv (.list []) (.list []) = true := by
  simp only [PyData.eqv, PyData.eqvAll]
theorem bnd_nats {l : List Nat} {n : Nat} (h : ∀ x ∈ l, x ≤ 1000000) (hl : l.length ≤ n) : Bnd 1 n (.list (natD l)) :=
  (Bnd.list (k := 0) (b := 0) (n := n) (c := n) (fun x hx => by
    obtain ⟨i, hi, rfl⟩ := List.mem_map.mp hx
    have := h i hi
    exact Bnd.int (by omega)) (by unfold natD; rw [List.length_map]; exact hl) (by omega))
theorem bnd_pair {p : Nat × List Nat} {n : Nat} (h0 : p.1 ≤ 1000000) (h : ∀ x ∈ p.2, x ≤ 1000000) (hl : p.2.length ≤ n) : Bnd 2 (2 * (n + 1)) (pairD p) :=
  Bnd.tuple (k := 1) (b := n) (n := 2) (fun x hx => by
    rcases List.mem_cons.mp hx with e | e
    · rw [e]; exact Bnd.int (by omega)
    · rw [List.mem_singleton.mp e]
      exact bnd_nats h hl) (Nat.le_refl 2) (Nat.le_refl _)
section
variable {P : Program} {w : World} {K : PySem.W.Frag} {mg : Str → Option Value} {base : Heap}
def spM0 : Sp := fun vs H Q _ => ∃ i : Int, vs = [.int i] ∧ Q (.bl true) H
theorem ok_marked0 (T : Tx K mg) : FnG P w K mg base CX0 1 T.a_law_marked T.d_law_marked ["_law_told"] spM0 := by
  have G_law_marked : FnG P w K mg base CX0 0 T.a_law_marked T.d_law_marked ["_law_told"] (fun _ _ _ _ => False) := ⟨fun _ _ _ _ h => h.elim, fun _ _ _ _ _ _ _ _ _ _ _ _ _ _ h => h.elim⟩
  refine bodyG0 T.F_law_marked sc_law_marked (fun vs H Q E h => ?_) (fun cdv A outer s H vs Q E gd hr h => ?_)
  · obtain ⟨i, rfl, _⟩ := h; rfl
  · obtain ⟨i, rfl, q⟩ := h
    refine ⟨_, (pss_cons (ps_if (pt_val (pe_callB call_isD (by rfl) T.z_isinstance (by decide +kernel) (pa_cons (pv 0) (pa_cons (pe_bltn (v := .ty "list") (by rfl) T.z_list (by decide +kernel) rfl) pa_nil)))) (pss_cons (ps_if (PW.pt (pw_and (pt_cmpR (op_neT hr.units) (pv 0) (pe_lst pa_nil) (nomark _)) (pw_and1 (pt_cmpR (op_eqT hr.units) (pe_ix (ix_listK (K := K) rfl) (pv 0) (pe_un un_neg pe_int) (fun _ _ => rfl)) pe_str (nomark _))))) (pss_one (ps_ret pe_bl)) pss_nil)
      (pss_cons (ps_setLc (i := 1) (own := [("_law_item", 2)]) (g := gName 2) (tt := tYes) rfl sc_law_marked.nd rfl rfl (sw_true rfl rfl rfl (by decide +kernel)) (pi_list (pv 0)) (blkOk_by (N := ["_law_told", "_law_kept_here", "_law_item"]) (sc := defScope s_law_marked) (by decide +kernel)) (fun _ _ _ _ _ => (pg_name (i := 2) sc_law_marked.nd rfl (Or.inl rfl))) (fun _ _ _ _ _ => pts_nil) (fun _ _ _ _ _ => (pe_g G_law_marked gd (hr.mono (by decide)) (by rfl) T.g_law_marked T.F_law_marked.kp T.b_law_marked .nil pass0 (pa_cons (pv 2) pa_nil))))
      (pss_cons (ps_expr (pe_bm PySem.F.plainAttrs_list PySem.F.slot_list_append PySem.F.type_list_append mt_append (pv 0) (pa_cons pe_str pa_nil)))
      (pss_one (ps_ret (pe_cmpR op_notIn_seq pe_bl (pv 1) (by rfl))))))) pss_nil)
      (pss_one (ps_ret (pe_or (pe_not (pe_callB call_isD (by rfl) T.z_isinstance (by decide +kernel) (pa_cons (pv 0) (pa_cons (pe_bltn (v := .ty "tuple") (by rfl) T.z_tuple (by decide +kernel) rfl) pa_nil)))) (pe_one (pe_cmpR op_notIn_seq pe_bl (pe_lc (own := [("_law_item", 2)]) (g := gName 2) (tt := tYes) rfl sc_law_marked.nd (pi_tup (pv 0)) (blkOk_by (N := ["_law_told", "_law_kept_here", "_law_item"]) (sc := defScope s_law_marked) (by decide +kernel)) (fun _ _ _ _ _ => (pg_name (i := 2) sc_law_marked.nd rfl (Or.inl rfl))) (fun _ _ _ _ _ => pts_nil) (fun _ _ _ _ _ => (pe_g G_law_marked gd (hr.mono (by decide)) (by rfl) T.g_law_marked T.F_law_marked.kp T.b_law_marked .nil pass0 (pa_cons (pv 2) pa_nil)))) (by rfl))))))), ?_⟩
    refine ⟨_, rfl, _, .int i, _, _, rfl, .int i, kit_list _, _, rfl, iteF ?_⟩
    exact ⟨_, rfl, _, .int i, _, _, rfl, .int i, kit_tuple _, _, rfl, _, rfl, iteT q⟩
/-- a row: the word is put behind it -/
def spM1 : Sp := fun vs H Q _ => ∃ (r : Addr) (l : List Nat), vs = [.ref r] ∧ H r = some (.lst (natV l)) ∧ l.length ≤ 1000 ∧ (∀ x ∈ l, x ≤ 1000000) ∧ ∀ H', Same H H' → Q (.bl true) (upd H' r (.lst (natV l ++ [.str mk])))
def spM01 : Sp := fun vs H Q E => spM0 vs H Q E ∨ spM1 vs H Q E
theorem not_in_trues (n : Nat) : (!inV (V.bl false) ((List.range n).map fun _ => V.bl true)) = true := by
  rw [Bool.not_eq_true']
  unfold inV
  rw [List.any_eq_false]
  intro x hx
  obtain ⟨_, _, rfl⟩ := List.mem_map.mp hx
  decide
theorem trues_flat (n : Nat) : ((List.range n).map fun _ => V.bl true).all flatV = true := by
  rw [List.all_eq_true]
  intro x hx
  obtain ⟨_, _, rfl⟩ := List.mem_map.mp hx
  rfl
theorem ok_marked1 (T : Tx K mg) : FnG P w K mg base CX0 2 T.a_law_marked T.d_law_marked ["_law_told"] spM01 := by
  have G_law_marked := ok_marked0 (P := P) (w := w) (base := base) T
  refine ⟨fun vs H Q E h => ?_, fun A outer s H args us vs Q E gd room env bind rel want => ?_⟩
  · rcases h with ⟨i, rfl, _⟩ | ⟨r, l, rfl, _⟩ <;> rfl
  rcases want with h | h
  · exact (G_law_marked.up (by decide : 1 ≤ 2)).go A outer s H args us vs Q E gd room env bind rel h
  have R : FnG P w K mg base CX0 2 T.a_law_marked T.d_law_marked ["_law_told"] spM1 := by
    refine bodyG0 T.F_law_marked sc_law_marked (fun vs H Q E h => ?_) (fun cdv A outer s H vs Q E gd hr h => ?_)
    · obtain ⟨r, l, rfl, _⟩ := h; rfl
    · obtain ⟨r, l, rfl, hr1, hl, hx, q⟩ := h
      refine ⟨_, (pss_cons (ps_if (pt_val (pe_callB call_isD (by rfl) T.z_isinstance (by decide +kernel) (pa_cons (pv 0) (pa_cons (pe_bltn (v := .ty "list") (by rfl) T.z_list (by decide +kernel) rfl) pa_nil)))) (pss_cons (ps_if (PW.pt (pw_and (pt_cmpR (op_neT hr.units) (pv 0) (pe_lst pa_nil) (nomark _)) (pw_and1 (pt_cmpR (op_eqT hr.units) (pe_ix (ix_listK (K := K) rfl) (pv 0) (pe_un un_neg pe_int) (fun _ _ => rfl)) pe_str (nomark _))))) (pss_one (ps_ret pe_bl)) pss_nil)
      (pss_cons (ps_setLc (i := 1) (own := [("_law_item", 2)]) (g := gName 2) (tt := tYes) rfl sc_law_marked.nd rfl rfl (sw_true rfl rfl rfl (by decide +kernel)) (pi_list (pv 0)) (blkOk_by (N := ["_law_told", "_law_kept_here", "_law_item"]) (sc := defScope s_law_marked) (by decide +kernel)) (fun _ _ _ _ _ => (pg_name (i := 2) sc_law_marked.nd rfl (Or.inl rfl))) (fun _ _ _ _ _ => pts_nil) (fun _ _ _ _ _ => (pe_g G_law_marked gd (hr.mono (by decide)) (by rfl) T.g_law_marked T.F_law_marked.kp T.b_law_marked .nil pass0 (pa_cons (pv 2) pa_nil))))
      (pss_cons (ps_expr (pe_bm PySem.F.plainAttrs_list PySem.F.slot_list_append PySem.F.type_list_append mt_append (pv 0) (pa_cons pe_str pa_nil)))
      (pss_one (ps_ret (pe_cmpR op_notIn_seq pe_bl (pv 1) (by rfl))))))) pss_nil)
      (pss_one (ps_ret (pe_or (pe_not (pe_callB call_isD (by rfl) T.z_isinstance (by decide +kernel) (pa_cons (pv 0) (pa_cons (pe_bltn (v := .ty "tuple") (by rfl) T.z_tuple (by decide +kernel) rfl) pa_nil)))) (pe_one (pe_cmpR op_notIn_seq pe_bl (pe_lc (own := [("_law_item", 2)]) (g := gName 2) (tt := tYes) rfl sc_law_marked.nd (pi_tup (pv 0)) (blkOk_by (N := ["_law_told", "_law_kept_here", "_law_item"]) (sc := defScope s_law_marked) (by decide +kernel)) (fun _ _ _ _ _ => (pg_name (i := 2) sc_law_marked.nd rfl (Or.inl rfl))) (fun _ _ _ _ _ => pts_nil) (fun _ _ _ _ _ => (pe_g G_law_marked gd (hr.mono (by decide)) (by rfl) T.g_law_marked T.F_law_marked.kp T.b_law_marked .nil pass0 (pa_cons (pv 2) pa_nil)))) (by rfl))))))), ?_⟩
      have nd : Nice (.list (natD l)) := (bnd_nats hx hl).nice (by decide) (by omega)
      refine ⟨_, rfl, _, _, _, _, rfl, Dt.nats hr1, kit_list _, _, rfl, iteT ?_⟩
      refine ⟨_, rfl, Nat.zero_le _, fun D hD => ⟨_, _, Dt.nats (same_new' hD _ _ hr1), .lst upd_same .nil, nd.shaped, nice_nil.shaped, _, rfl, ?_⟩⟩
      have s1 : Same H (upd H D (.lst [])) := same_new' hD
      generalize (upd H D (.lst [])) = H1 at s1
      cases l with
      | nil =>
        rw [show (!PyData.eqv (.list (natD [])) (.list [])) = false from by rw [show natD [] = [] from rfl, eqv_nil0]; rfl]
        refine iteF (iteF ?_)
        refine ⟨_, rfl, r, rfl, ⟨_, .inl (.inl (s1 _ _ hr1))⟩, fun D2 hD2 => ?_⟩
        refine lc_list (K := K) (a := r) (xs := natV []) (fun i H' => Same H1 H' ∧ H' D2 = some (.lst ((List.range i).map fun _ => V.bl true))) ⟨same_new' hD2, upd_same⟩ (fun i H' _ e => .inl (.inl (e.1 _ _ (s1 _ _ hr1)))) (fun i x H' hi => by simp [natV] at hi) ?_
        rintro H' ⟨s2, e2⟩
        refine ⟨_, rfl, .inl ⟨rfl, _, .inl (.inl (s2 _ _ (s1 _ _ hr1)))⟩, r, _, _, rfl, rfl, s2 _ _ (s1 _ _ hr1), by rw [sizeLine_eq]; decide, ?_⟩
        have nD : D2 ≠ r := (ne_of_none (s1 _ _ hr1) hD2).symm
        refine ⟨_, rfl, D2, _, rfl, .inl (.inl (.inl (by rw [upd_ne nD]; exact e2))), rfl, trues_flat _, ?_⟩
        rw [if_pos rfl, not_in_trues]
        exact q H' (s1.trans s2)
      | cons z l0 =>
        rw [show (!PyData.eqv (.list (natD (z :: l0))) (.list [])) = true from by rw [show natD (z :: l0) = .int (z : Int) :: natD l0 from rfl, eqv_nil]; rfl]
        obtain ⟨l1, y, hly⟩ : ∃ l1 y, z :: l0 = l1 ++ [y] := ⟨_, _, (List.dropLast_concat_getLast (List.cons_ne_nil z l0)).symm⟩
        have ny : Nice (.int (y : Int)) := Nice.int (by have := hx y (by rw [hly]; simp); omega)
        have ev : PyData.eqv (.int (y : Int)) (.str mk) = false := by simp only [PyData.eqv]
        refine iteT ⟨_, rfl, _, rfl, r, natV (z :: l0), -1, .int (y : Int), rfl, rfl, .inl (.inl (s1 _ _ hr1)), by rw [hly, show natV (l1 ++ [y]) = natV l1 ++ [.int (y : Int)] from by unfold natV; rw [List.map_append]; rfl]; exact atI_last _ _, _, _, .int _, .str _, ny.shaped, nice_mk.shaped, _, rfl, ?_⟩
        rw [ev]
        refine iteF ?_
        refine ⟨_, rfl, r, rfl, ⟨_, .inl (.inl (s1 _ _ hr1))⟩, fun D2 hD2 => ?_⟩
        refine lc_list (K := K) (a := r) (xs := natV (z :: l0)) (fun i H' => Same H1 H' ∧ H' D2 = some (.lst ((List.range i).map fun _ => V.bl true))) ⟨same_new' hD2, upd_same⟩ (fun i H' _ e => .inl (.inl (e.1 _ _ (s1 _ _ hr1)))) ?_ ?_
        · rintro i x H' hi ⟨s2, e2⟩
          obtain ⟨b, hb, rfl⟩ := nat_get hi
          have il : i < (z :: l0).length := (List.getElem?_eq_some_iff.mp hb).1
          refine ⟨rfl, yes_if ?_⟩
          refine ⟨_, rfl, _, rfl, ?_⟩
          exact lcS (f := fun _ => V.bl true) hD2 s2 e2 (by omega)
        · rintro H' ⟨s2, e2⟩
          refine ⟨_, rfl, .inl ⟨rfl, _, .inl (.inl (s2 _ _ (s1 _ _ hr1)))⟩, r, _, _, rfl, rfl, s2 _ _ (s1 _ _ hr1), by rw [sizeLine_eq]; unfold natV; rw [List.length_map]; omega, ?_⟩
          have nD : D2 ≠ r := (ne_of_none (s1 _ _ hr1) hD2).symm
          refine ⟨_, rfl, D2, _, rfl, .inl (.inl (.inl (by rw [upd_ne nD]; exact e2))), rfl, trues_flat _, ?_⟩
          rw [if_pos rfl, not_in_trues]
          exact q H' (s1.trans s2)
  exact R.go A outer s H args us vs Q E gd room env bind rel h
/-- a pair of a stand and a row -/
def spM2 : Sp := fun vs H Q _ => ∃ (u r : Addr) (p : Nat × List Nat), vs = [.ref u] ∧ H u = some (.tup [.int (p.1 : Int), .ref r]) ∧ H r = some (.lst (natV p.2)) ∧ p.2.length ≤ 1000 ∧ (∀ x ∈ p.2, x ≤ 1000000) ∧ ∀ H', SameX r H H' → Q (.bl true) H'
theorem ok_marked2 (T : Tx K mg) : FnG P w K mg base CX0 3 T.a_law_marked T.d_law_marked ["_law_told"] spM2 := by
  have G_law_marked := ok_marked1 (P := P) (w := w) (base := base) T
  refine bodyG0 T.F_law_marked sc_law_marked (fun vs H Q E h => ?_) (fun cdv A outer s H vs Q E gd hr h => ?_)
  · obtain ⟨u, r, p, rfl, _⟩ := h; rfl
  · obtain ⟨u, r, p, rfl, hu, hr1, hl, hx, q⟩ := h
    refine ⟨_, (pss_cons (ps_if (pt_val (pe_callB call_isD (by rfl) T.z_isinstance (by decide +kernel) (pa_cons (pv 0) (pa_cons (pe_bltn (v := .ty "list") (by rfl) T.z_list (by decide +kernel) rfl) pa_nil)))) (pss_cons (ps_if (PW.pt (pw_and (pt_cmpR (op_neT hr.units) (pv 0) (pe_lst pa_nil) (nomark _)) (pw_and1 (pt_cmpR (op_eqT hr.units) (pe_ix (ix_listK (K := K) rfl) (pv 0) (pe_un un_neg pe_int) (fun _ _ => rfl)) pe_str (nomark _))))) (pss_one (ps_ret pe_bl)) pss_nil)
      (pss_cons (ps_setLc (i := 1) (own := [("_law_item", 2)]) (g := gName 2) (tt := tYes) rfl sc_law_marked.nd rfl rfl (sw_true rfl rfl rfl (by decide +kernel)) (pi_list (pv 0)) (blkOk_by (N := ["_law_told", "_law_kept_here", "_law_item"]) (sc := defScope s_law_marked) (by decide +kernel)) (fun _ _ _ _ _ => (pg_name (i := 2) sc_law_marked.nd rfl (Or.inl rfl))) (fun _ _ _ _ _ => pts_nil) (fun _ _ _ _ _ => (pe_g G_law_marked gd (hr.mono (by decide)) (by rfl) T.g_law_marked T.F_law_marked.kp T.b_law_marked .nil pass0 (pa_cons (pv 2) pa_nil))))
      (pss_cons (ps_expr (pe_bm PySem.F.plainAttrs_list PySem.F.slot_list_append PySem.F.type_list_append mt_append (pv 0) (pa_cons pe_str pa_nil)))
      (pss_one (ps_ret (pe_cmpR op_notIn_seq pe_bl (pv 1) (by rfl))))))) pss_nil)
      (pss_one (ps_ret (pe_or (pe_not (pe_callB call_isD (by rfl) T.z_isinstance (by decide +kernel) (pa_cons (pv 0) (pa_cons (pe_bltn (v := .ty "tuple") (by rfl) T.z_tuple (by decide +kernel) rfl) pa_nil)))) (pe_one (pe_cmpR op_notIn_seq pe_bl (pe_lc (own := [("_law_item", 2)]) (g := gName 2) (tt := tYes) rfl sc_law_marked.nd (pi_tup (pv 0)) (blkOk_by (N := ["_law_told", "_law_kept_here", "_law_item"]) (sc := defScope s_law_marked) (by decide +kernel)) (fun _ _ _ _ _ => (pg_name (i := 2) sc_law_marked.nd rfl (Or.inl rfl))) (fun _ _ _ _ _ => pts_nil) (fun _ _ _ _ _ => (pe_g G_law_marked gd (hr.mono (by decide)) (by rfl) T.g_law_marked T.F_law_marked.kp T.b_law_marked .nil pass0 (pa_cons (pv 2) pa_nil)))) (by rfl))))))), ?_⟩
    have hd : Dt H (.ref u) (pairD p) := .tup hu (.cons (.int _) (.cons (Dt.nats hr1) .nil))
    refine ⟨_, rfl, _, _, _, _, rfl, hd, kit_list _, _, rfl, iteF ?_⟩
    refine ⟨_, rfl, _, _, _, _, rfl, hd, kit_tuple _, _, rfl, _, rfl, iteF ?_⟩
    refine ⟨_, rfl, u, rfl, ⟨_, .inl (.inl hu)⟩, fun D hD => ?_⟩
    have ur : u ≠ r := ne_obj hu hr1 (fun z => by cases z)
    have rD : r ≠ D := ne_of_none hr1 hD
    have uD : u ≠ D := ne_of_none hu hD
    refine lc_tup (K := K) (a := u) (xs := [.int (p.1 : Int), .ref r]) (fun i H' => SameX r H H' ∧ (i < 2 → H' r = some (.lst (natV p.2))) ∧ H' D = some (.lst ((List.range i).map fun _ => V.bl true))) ⟨SameX.of (same_new' hD), fun _ => same_new' hD _ _ hr1, upd_same⟩ (fun i H' _ e => .inl (.inl (e.1 _ _ ur hu))) ?_ ?_
    · rintro i x H' hi ⟨s2, e1, e2⟩
      have push : ∀ {H3 : Hp}, SameX r H H3 → (i + 1 < 2 → H3 r = some (.lst (natV p.2))) → H3 D = some (.lst ((List.range i).map fun _ => V.bl true)) → i ≤ 1000 → ∃ acc, H3 D = some (.lst acc) ∧ acc.length < sizeLine ∧ (SameX r H (upd H3 D (.lst (acc ++ [.bl true]))) ∧ (i + 1 < 2 → (upd H3 D (.lst (acc ++ [.bl true]))) r = some (.lst (natV p.2))) ∧ (upd H3 D (.lst (acc ++ [.bl true]))) D = some (.lst ((List.range (i + 1)).map fun _ => V.bl true))) := fun {H3} h1 h2 h3 h4 => by
        refine ⟨_, h3, by rw [List.length_map, List.length_range, sizeLine_eq]; omega, fun b o nb hb => ?_, fun h => by rw [upd_ne rD]; exact h2 h, ?_⟩
        · rw [upd_ne (ne_of_none hb hD)]
          exact h1 b o nb hb
        · rw [upd_same, List.range_succ, List.map_append]
          rfl
      refine ⟨rfl, yes_if ?_⟩
      rcases i with _ | _ | i
      · cases hi
        exact ⟨_, rfl, .inl ⟨_, rfl, push s2 (fun h => e1 (by omega)) e2 (by omega)⟩⟩
      · cases hi
        refine ⟨_, rfl, .inr ⟨r, p.2, rfl, e1 (by omega), hl, hx, fun H3 s3 => ?_⟩⟩
        refine push (fun b o nb hb => ?_) (fun h => by omega) ?_ (by omega)
        · rw [upd_ne nb]
          exact s3 _ _ (s2 b o nb hb)
        · rw [upd_ne rD.symm]
          exact s3 _ _ e2
      · simp at hi
    · rintro H' ⟨s2, e1, e2⟩
      refine ⟨D, _, rfl, .inl (.inl (.inl e2)), rfl, trues_flat _, ?_⟩
      rw [if_pos rfl, not_in_trues]
      exact q H' s2
/-- the list of pairs -/
def spM3 : Sp := fun vs H Q _ => ∃ (H0 : Hp) (c : Addr) (es : List En), vs = [.ref c] ∧ RowsAt H0 H c es ∧ es ≠ [] ∧ es.length ≤ 1000 ∧ (∀ e ∈ es, e.n ≤ 1000 ∧ e.row.length ≤ 20 ∧ ∀ x ∈ e.row, x ≤ 1000) ∧ ∀ H', (∀ b o, H0 b = some o → H b = some o → H' b = some o) → Q (.bl true) H'
theorem ok_marked3 (T : Tx K mg) : FnG P w K mg base CX0 4 T.a_law_marked T.d_law_marked ["_law_told"] spM3 := by
  have G_law_marked := ok_marked2 (P := P) (w := w) (base := base) T
  refine bodyG0 T.F_law_marked sc_law_marked (fun vs H Q E h => ?_) (fun cdv A outer s H vs Q E gd hr h => ?_)
  · obtain ⟨H0, c, es, rfl, _⟩ := h; rfl
  · obtain ⟨H0, c, es, rfl, R, hne, hl, hb, q⟩ := h
    refine ⟨_, (pss_cons (ps_if (pt_val (pe_callB call_isD (by rfl) T.z_isinstance (by decide +kernel) (pa_cons (pv 0) (pa_cons (pe_bltn (v := .ty "list") (by rfl) T.z_list (by decide +kernel) rfl) pa_nil)))) (pss_cons (ps_if (PW.pt (pw_and (pt_cmpR (op_neT hr.units) (pv 0) (pe_lst pa_nil) (nomark _)) (pw_and1 (pt_cmpR (op_eqT hr.units) (pe_ix (ix_listK (K := K) rfl) (pv 0) (pe_un un_neg pe_int) (fun _ _ => rfl)) pe_str (nomark _))))) (pss_one (ps_ret pe_bl)) pss_nil)
      (pss_cons (ps_setLc (i := 1) (own := [("_law_item", 2)]) (g := gName 2) (tt := tYes) rfl sc_law_marked.nd rfl rfl (sw_true rfl rfl rfl (by decide +kernel)) (pi_list (pv 0)) (blkOk_by (N := ["_law_told", "_law_kept_here", "_law_item"]) (sc := defScope s_law_marked) (by decide +kernel)) (fun _ _ _ _ _ => (pg_name (i := 2) sc_law_marked.nd rfl (Or.inl rfl))) (fun _ _ _ _ _ => pts_nil) (fun _ _ _ _ _ => (pe_g G_law_marked gd (hr.mono (by decide)) (by rfl) T.g_law_marked T.F_law_marked.kp T.b_law_marked .nil pass0 (pa_cons (pv 2) pa_nil))))
      (pss_cons (ps_expr (pe_bm PySem.F.plainAttrs_list PySem.F.slot_list_append PySem.F.type_list_append mt_append (pv 0) (pa_cons pe_str pa_nil)))
      (pss_one (ps_ret (pe_cmpR op_notIn_seq pe_bl (pv 1) (by rfl))))))) pss_nil)
      (pss_one (ps_ret (pe_or (pe_not (pe_callB call_isD (by rfl) T.z_isinstance (by decide +kernel) (pa_cons (pv 0) (pa_cons (pe_bltn (v := .ty "tuple") (by rfl) T.z_tuple (by decide +kernel) rfl) pa_nil)))) (pe_one (pe_cmpR op_notIn_seq pe_bl (pe_lc (own := [("_law_item", 2)]) (g := gName 2) (tt := tYes) rfl sc_law_marked.nd (pi_tup (pv 0)) (blkOk_by (N := ["_law_told", "_law_kept_here", "_law_item"]) (sc := defScope s_law_marked) (by decide +kernel)) (fun _ _ _ _ _ => (pg_name (i := 2) sc_law_marked.nd rfl (Or.inl rfl))) (fun _ _ _ _ _ => pts_nil) (fun _ _ _ _ _ => (pe_g G_law_marked gd (hr.mono (by decide)) (by rfl) T.g_law_marked T.F_law_marked.kp T.b_law_marked .nil pass0 (pa_cons (pv 2) pa_nil)))) (by rfl))))))), ?_⟩
    have bp : ∀ e ∈ es, Bnd 2 42 (pairD e.p) := fun e he => bnd_pair (n := 20) (by show e.n ≤ _; have := (hb e he).1; omega) (fun x hx => by have := (hb e he).2.2 x hx; omega) (hb e he).2.1
    have nd : Nice (.list (es.map fun e => pairD e.p)) := (Bnd.list (k := 2) (b := 42) (n := 1000) (c := 43000) (fun x hx => by
      obtain ⟨e, he, rfl⟩ := List.mem_map.mp hx
      exact bp e he) (by rw [List.length_map]; exact hl) (by decide)).nice (by decide) (by decide)
    refine ⟨_, rfl, _, _, _, _, rfl, R.dt, kit_list _, _, rfl, iteT ?_⟩
    refine ⟨_, rfl, Nat.zero_le _, fun D hD => ⟨_, _, R.dt.to (same_new' hD), .lst upd_same .nil, nd.shaped, nice_nil.shaped, _, rfl, ?_⟩⟩
    have s1 : Same H (upd H D (.lst [])) := same_new' hD
    generalize (upd H D (.lst [])) = H1 at s1
    obtain ⟨es1, y, hly⟩ : ∃ l1 y, es = l1 ++ [y] := ⟨_, _, (List.dropLast_concat_getLast hne).symm⟩
    have ym : y ∈ es := by rw [hly]; simp
    rw [show (!PyData.eqv (.list (es.map fun e => pairD e.p)) (.list [])) = true from by
      cases es with
      | nil => exact absurd rfl hne
      | cons e r => rw [List.map_cons, eqv_nil]; rfl]
    have R1 := R.same s1
    have ny := (bp y ym).nice (by decide) (by decide)
    have ev : PyData.eqv (pairD y.p) (.str mk) = false := by unfold pairD; simp only [PyData.eqv]
    obtain ⟨y1, y2, _, _⟩ := R1.each y ym
    refine iteT ⟨_, rfl, _, rfl, c, _, -1, .ref y.t, rfl, rfl, .inl (.inl R1.at_), by rw [hly, List.map_append]; exact atI_last _ _, _, _, .tup y1 (.cons (.int _) (.cons (Dt.nats y2) .nil)), .str _, ny.shaped, nice_mk.shaped, _, rfl, ?_⟩
    rw [show PyData.eqv (.tuple [.int (y.n : Int), .list (natD y.row)]) (.str mk) = false from ev]
    refine iteF ?_
    refine ⟨_, rfl, c, rfl, ⟨_, .inl (.inl R1.at_)⟩, fun D2 hD2 => ?_⟩
    have D2c : D2 ≠ c := (ne_of_none R1.at_ hD2).symm
    refine lc_list (K := K) (a := c) (xs := es.map fun e => V.ref e.t) (fun i H' => H' c = some (.lst (es.map fun e => V.ref e.t)) ∧ (∀ e ∈ es, H' e.t = some (.tup [.int (e.n : Int), .ref e.r])) ∧ (∀ j e, i ≤ j → es[j]? = some e → H' e.r = some (.lst (natV e.row))) ∧ (∀ b o, H0 b = some o → H b = some o → H' b = some o) ∧ H' D2 = some (.lst ((List.range i).map fun _ => V.bl true)))
      ⟨same_new' hD2 _ _ R1.at_, fun e he => same_new' hD2 _ _ (R1.each e he).1, fun j e _ he => same_new' hD2 _ _ (R1.each e (List.mem_of_getElem? he)).2.1, fun b o _ h => same_new' hD2 _ _ (s1 _ _ h), upd_same⟩ (fun i H' _ e => .inl (.inl e.1)) ?_ ?_
    · rintro i x H' hi ⟨a1, a2, a3, a4, a5⟩
      rw [List.getElem?_map] at hi
      obtain ⟨e, he, rfl⟩ := Option.map_eq_some_iff.mp hi
      have em := List.mem_of_getElem? he
      have il : i < es.length := (List.getElem?_eq_some_iff.mp he).1
      obtain ⟨b1, b2, b3⟩ := hb e em
      obtain ⟨c1, c2, c3, c4⟩ := R1.each e em
      have hD0 : H1 D2 = none := hD2
      have Dr : D2 ≠ e.r := (ne_of_none c2 hD2).symm
      refine ⟨rfl, yes_if ?_⟩
      refine ⟨_, rfl, e.t, e.r, e.p, rfl, a2 e em, a3 i e (Nat.le_refl _) he, by show e.row.length ≤ _; omega, fun x hx => by have := b3 x hx; omega, fun H3 s3 => ?_⟩
      have keep : ∀ b o, b ≠ e.r → b ≠ D2 → H' b = some o → upd H3 D2 (.lst (((List.range i).map fun _ => V.bl true) ++ [.bl true])) b = some o := fun b o n1 n2 h => by
        rw [upd_ne n2]
        exact s3 b o n1 h
      refine ⟨_, s3 _ _ Dr a5, by rw [List.length_map, List.length_range, sizeLine_eq]; omega, keep _ _ c4.symm D2c.symm a1, fun f hf => ?_, fun j f hj hjf => ?_, fun b o h0 h => ?_, ?_⟩
      · exact keep _ _ (ne_obj (a2 f hf) (a3 i e (Nat.le_refl _) he) (fun z => by cases z)) (ne_obj (a2 f hf) a5 (fun z => by cases z)) (a2 f hf)
      · have fm := List.mem_of_getElem? hjf
        have jl : j < es.length := (List.getElem?_eq_some_iff.mp hjf).1
        have ne : f.r ≠ e.r := fun z => by
          have p1 : (es.map (·.r))[j]? = some f.r := by rw [List.getElem?_map, hjf]; rfl
          have p2 : (es.map (·.r))[i]? = some e.r := by rw [List.getElem?_map, he]; rfl
          have := (List.getElem?_inj (by rw [List.length_map]; exact jl) R.diff).mp (p1.trans (by rw [z, p2]))
          omega
        exact keep _ _ ne (ne_of_none (R1.each f fm).2.1 hD2) (a3 j f (by omega) hjf)
      · exact keep _ _ (fun z => by rw [z, c3] at h0; cases h0) (ne_of_none (s1 _ _ h) hD2) (a4 b o h0 h)
      · rw [upd_same, List.range_succ, List.map_append]
        rfl
    · rintro H' ⟨a1, a2, a3, a4, a5⟩
      refine ⟨_, rfl, .inl ⟨rfl, _, .inl (.inl a1)⟩, c, _, _, rfl, rfl, a1, by rw [List.length_map, sizeLine_eq]; omega, ?_⟩
      refine ⟨_, rfl, D2, _, rfl, .inl (.inl (.inl (by rw [upd_ne D2c]; exact a5))), rfl, trues_flat _, ?_⟩
      rw [if_pos rfl, not_in_trues]
      exact q _ fun b o h0 h => by
        rw [upd_ne (fun z => by rw [z, R.new] at h0; cases h0)]
        exact a4 b o h0 h
end

end K14

set_option Elab.async false
set_option linter.all false
set_option maxRecDepth 100000
set_option maxHeartbeats 4000000
namespace K14
open PySem PySem.Spec PyProof.Rows L2 Hw

section
variable {P : Program} {w : World} {K : PySem.W.Frag} {mg : Str → Option Value} {base : Heap}
/-- what is known of a table that is asked for its stands -/
structure Ask (t : Tb) : Prop where
  good : t.Good
  nice : Nice t.d
  few : t.steps.length ≤ 5
  many : t.many ≤ 3
  some : firsts t ≠ []
theorem Ask.bnd {t : Tb} (A : Ask t) {es : List En} (hs : es.map En.p = firsts t) (hl : es.length ≤ t.steps.length) (hb : ∀ e ∈ es, e.n < t.steps.length ∧ e.row.length ≤ t.steps.length) (hx : ∀ e ∈ es, ∀ x ∈ e.row, x < 2 ^ t.many) :
    es ≠ [] ∧ es.length ≤ 1000 ∧ ∀ e ∈ es, e.n ≤ 1000 ∧ e.row.length ≤ 20 ∧ ∀ x ∈ e.row, x ≤ 1000 := by
  have a := A.few
  have b : 2 ^ t.many ≤ 8 := Nat.le_trans (Nat.pow_le_pow_right (by decide) A.many) (by decide)
  refine ⟨fun z => A.some (by rw [← hs, z]; rfl), by omega, fun e he => ⟨by have := (hb e he).1; omega, by have := (hb e he).2; omega, fun x h => by have := hx e he x h; omega⟩⟩
/-- the letters of the first rows -/
theorem kids_letters {f : Nat → Nat → Nat} {m : Nat} {acc : List (Nat × List Nat)} {s : Nat} {r : List Nat} (ha : ∀ p ∈ acc, ∀ x ∈ p.2, x < m) (hr : ∀ x ∈ r, x < m) : ∀ c, c ≤ m → ∀ p ∈ kidsTo f acc s r c, ∀ x ∈ p.2, x < m
  | 0, _ => ha
  | c + 1, hc => by
    have ih := kids_letters (f := f) (s := s) ha hr c (by omega)
    intro p hp
    rw [kidsTo] at hp
    split at hp
    · exact ih p hp
    · rcases List.mem_append.mp hp with h | h
      · exact ih p h
      · rw [List.mem_singleton.mp h]
        intro x hx
        rcases List.mem_append.mp hx with h | h
        · exact hr x h
        · rw [List.mem_singleton.mp h]; omega
theorem bfs_letters {f : Nat → Nat → Nat} {m : Nat} : ∀ (k i : Nat) (acc : List (Nat × List Nat)), (∀ p ∈ acc, ∀ x ∈ p.2, x < m) → ∀ p ∈ bfsL m f k i acc, ∀ x ∈ p.2, x < m
  | 0, _, _, h => h
  | k + 1, i, acc, h => by
    rw [bfsL]
    split
    · exact h
    · rename_i x hx
      exact bfs_letters k (i + 1) _ (kids_letters h (h x (List.mem_of_getElem? hx)) m (Nat.le_refl _))
theorem firsts_letters {t : Tb} {es : List En} (hs : es.map En.p = firsts t) : ∀ e ∈ es, ∀ x ∈ e.row, x < 2 ^ t.many := fun e he => by
  have : e.p ∈ firsts t := by rw [← hs]; exact List.mem_map_of_mem he
  exact bfs_letters _ _ _ (fun p hp => by rw [List.mem_singleton.mp hp]; intro x hx; exact nomatch hx) e.p this
def TTf (t : Tb) : (XK → Hp → VK → Prop) → Hp → VK → Prop := fun tl H Q =>
  Ask t ∧ (∀ H2, Same H H2 → ∀ Qk : VK, (∀ (c : Addr) (H3 : Hp) (es : List En), Same H2 H3 → RowsAt H2 H3 c es → es.map En.p = firsts t → es.length ≤ t.steps.length → (∀ e ∈ es, e.n < t.steps.length ∧ e.row.length ≤ t.steps.length) → Qk (.ref c) H3) → tl C8.E0 H2 Qk) ∧ ∀ H3, Same H H3 → Q (.bl true) H3
theorem fresh_gives (T : Tx K mg) {N : List Str} {x q : Str} {sc : Scope} {f : Addr} {cdv : Value} {A : Around} {outer : List Env} {s : Shared} {H : Hp} {E : XK} (gd : Gd (A.deeper (envOfC x sc s.heap.objs.size f cdv))) (hr0 : Room 6 (A.deeper (envOfC x sc s.heap.objs.size f cdv))) (cdg : Value) (t : Tb) :
    LamX.GivesTo (cxOf CX0 P w K mg base N x sc f cdv A outer s H E).nox ["_law_call", "_law_told", "_law_due"] "_law_fresh" (defScope s_law_fresh) T.a_law_fresh cdg (defBody s_law_fresh) "_law_call" q (TTf t) := by
  have G_law_marked := ok_marked3 (P := P) (w := w) (base := base) T
  intro f' c' s' H' Q tl act hc h
  have hr := hr0.deeper (envOfC "_law_fresh" (defScope s_law_fresh) s'.heap.objs.size T.a_law_fresh cdg)
  obtain ⟨ask, call, done⟩ := h
  refine ⟨_, (pss_cons (ps_set (i := 1) sc_law_fresh.nd rfl (Or.inl rfl) (act (fun _ _ _ _ => False) [] (fun _ _ => False) C8.E0 _ _ LamX.takes0 (fun _ _ _ _ h => h)))
      (pss_cons (ps_set (i := 2) sc_law_fresh.nd rfl (Or.inl rfl) (pe_callB (call_reprT gd hr.units) (by rfl) T.z_repr (by decide +kernel) (pa_cons (pv 1) pa_nil)))
      (pss_one (ps_ret (pe_and (pe_g G_law_marked gd (hr.mono (by decide)) (by rfl) T.g_law_marked T.F_law_marked.kp T.b_law_marked .nil pass0 (pa_cons (pv 1) pa_nil)) (pe_one (pe_cmpR op_eq (pe_callB (call_reprT gd hr.units) (by rfl) T.z_repr (by decide +kernel) (pa_cons (act (fun _ _ _ _ => False) [] (fun _ _ => False) C8.E0 _ _ LamX.takes0 (fun _ _ _ _ h => h)) pa_nil)) (pv 2) (nomark _)))))))), ?_⟩
  refine ⟨rfl, hc, call H' (Same.refl _) _ fun c H3 es s3 R e1 e2 e3 => ?_⟩
  obtain ⟨b1, b2, b3⟩ := ask.bnd e1 e2 e3 (firsts_letters e1)
  have bp : ∀ e ∈ es, Bnd 2 42 (pairD e.p) := fun e he => bnd_pair (n := 20) (by show e.n ≤ _; have := (b3 e he).1; omega) (fun x hx => by have := (b3 e he).2.2 x hx; omega) (b3 e he).2.1
  have nd : Nice (.list (es.map fun e => pairD e.p)) := (Bnd.list (k := 2) (b := 42) (n := 1000) (c := 43000) (fun x hx => by
    obtain ⟨e, he, rfl⟩ := List.mem_map.mp hx
    exact bp e he) (by rw [List.length_map]; exact b2) (by decide)).nice (by decide) (by decide)
  refine ⟨_, rfl, _, _, rfl, R.dt, nd.shows, ?_⟩
  refine ⟨_, rfl, H', c, es, rfl, R, b1, b2, b3, fun H4 k4 => ⟨true, rfl, iteT ?_⟩⟩
  have s4 : Same H' H4 := fun b o hb => k4 b o hb (s3 _ _ hb)
  refine ⟨rfl, s4 _ _ hc, call H4 s4 _ fun c2 H5 es2 s5 R2 f1 f2 f3 => ?_⟩
  have ee : (es2.map fun e => pairD e.p) = es.map fun e => pairD e.p := by
    have h1 : (es2.map fun e => pairD e.p) = (es2.map En.p).map pairD := by rw [List.map_map]; rfl
    have h2 : (es.map fun e => pairD e.p) = (es.map En.p).map pairD := by rw [List.map_map]; rfl
    rw [h1, h2, f1, e1]
  refine ⟨_, _, rfl, R2.dt, by rw [ee]; exact nd.shows, _, rfl, rfl, ?_⟩
  rw [ee]
  have := done H5 (s4.trans s5)
  simpa using this
end

end K14

set_option Elab.async false
set_option linter.all false
set_option maxRecDepth 100000
set_option maxHeartbeats 4000000
namespace K14
open PySem PySem.Spec PyProof.Rows L2 Hw

section
variable {P : Program} {w : World} {K : PySem.W.Frag} {mg : Str → Option Value} {base : Heap}
/-- a def's body, its code object known -/
theorem bodyGc0 {x : Str} {st : Stmt} {f c : Addr} {fd : FuncData} {N ps : List Str} {k : Nat} {sp : Sp}
    (F : DefAt K x st f fd) (hc : fd.code = .ref c) (S : FnScope N ps (defScope st)) (ar : ∀ vs H Q E, sp vs H Q E → vs.length = ps.length)
    (hb : ∀ (A : Around) (outer : List Env) (s : Shared) (H : Hp) (vs : List V) (Q : VK) (E : XK), Gd (A.deeper (envOfC x (defScope st) s.heap.objs.size f (.ref c))) → Room k (A.deeper (envOfC x (defScope st) s.heap.objs.size f (.ref c))) → sp vs H Q E →
      ∃ t, PSs (cxOf CX0 P w K mg base N x (defScope st) f (.ref c) A outer s H E).nox (defBody st) t ∧ t { nx := fun _ H' => Q .non H', rt := Q } (start N vs) H) : FnG P w K mg base CX0 (k + 1) f fd ps sp := by
  refine ⟨ar, ?_⟩
  intro A outer s H args us vs Q E gd room env bind rel want
  obtain ⟨oc, od, dV, kV, doc, pm, an, cdv, ct, osl, rfl, look, codeIs, -, -⟩ := F.ex
  have ec : cdv = .ref c := hc
  subst ec
  have inK : K.In s.heap := env.mod.kin.keeps fun b o q => (env.bs b o q).1
  have noLim : s.heap.NoLimit := env.mod.nolimit.keeps fun b o q => (env.bs b o q).1
  have kinds : ∀ y ∈ ps.zip us, (defScope st).names.lookup y.1 = some .local ∨ ((defScope st).names.lookup y.1 = some .cell ∧ ((cellsFrom (s.heap.objs.size + 1) (defScope st).names []).lookup y.1).isSome = true) := by
    rintro ⟨n, v⟩ hy
    cases S.par n (List.of_mem_zip hy).1 with
    | inl q => exact Or.inl q
    | inr q => exact Or.inr ⟨q, PySem.W.cellsFrom_some _ _ _ (Or.inl q)⟩
  refine codeAny_call_function room.depth (inK _ _ look) rfl S.co S.gen rfl (PySem.W.codeRec_of inK codeIs) (bind _ _ _ _ ?_)
  refine wpAny_newFunctionEnv_cells S.kind kinds ?_
  rintro env' rfl s1 x1
  refine ⟨noLim.keeps x1.toInCall.keep, codeAny_func ?_⟩
  obtain ⟨t, run, done⟩ := hb A outer s H vs Q E gd (room.deeper _) want
  have I := inv_start (CX := CX0) (E := E) S room.hd env (ar _ _ _ _ want) rel x1
  refine wpAny_mono (run.nox.run [] s1 (start N vs) H _ I done) ?_ (fun _ _ q => q)
  intro fl s' after
  cases fl with
  | ret u =>
    obtain ⟨v, σ', H', J, rv, q⟩ := after
    exact ⟨v, H', J.os, J.bare, J.base, J.hok, rv, q⟩
  | next =>
    obtain ⟨σ', H', J, q⟩ := after
    exact ⟨V.non, H', J.os, J.bare, J.base, J.hok, rfl, q⟩
  | brk => exact (after.choose_spec.choose_spec.2 : False).elim
  | cont => exact (after.choose_spec.choose_spec.2 : False).elim
end
section
variable {X : Cx}
theorem pe_lam {T : List (Addr × Str)} {TT : (XK → Hp → VK → Prop) → Hp → VK → Prop} {x a : Str} {g c P : Addr} {k : Nat} {st : Stmt} {fd : FuncData} {Ng : List Str} {params : Arguments} {body : Expr} {scope : Scope} {t : XK → TE} {p lpos pos : Pos}
    (F : DefAt X.K x st g fd) (hg : Gl X x) (hm : X.mg x = some (.ref g)) (hb : Binds X.K fd [a] []) (Sg : FnScope Ng [a] (defScope st)) (hNg : Ng[0]? = some a) (hva : Vis (defScope st) a)
    (hG : ∀ cdg, LamX.GivesTo X Ng x (defScope st) g cdg (defBody st) a (X.env.qual ++ "<lambda>") TT)
    (TB : LamX.TabB X.base X.mg c P) (hcode : X.env.code = .ref c) (hmT : (P, X.env.qual ++ "<lambda>") ∈ T) (hu : ∀ p ∈ T, p.1 = P → p.2 = X.env.qual ++ "<lambda>") (hr : Room (k + 2) X.A) (L : LamX.LamS X.env.scope scope) (hdef : defaultsOf params X.env = ([], []))
    (hbind : ∀ (q : Str) (cl : List (Str × Addr)) (pm cv ctv : Value), bindArgs (PySem.W.kla_fn "<lambda>" q params body scope cl pm cv ctv) ⟨[], []⟩ = pure [])
    (hbody : ∀ (A : Around) (outer : List Env) (s : Shared) (H : Hp) (E : XK) (f c' : Addr), Room k (A.deeper (LamX.lamEnv X scope s.heap.objs.size f c')) → PE (LamX.lamCx X A outer s H E scope f c') body (t E))
    (hdb : (x == ("__debug__" : Str)) = false := by decide) (hd : (a == ("__debug__" : Str)) = false := by decide) (hcd : (a == ("__classdict__" : Str)) = false := by decide) :
    PE X (.Call (.Name x p) [.Lambda params body scope lpos] [] pos) (LamX.tLam T TT t) := by
  obtain ⟨oc, od, dV, kV, doc, pm, an, cdv, ct, osl, rfl, look, codeIs, -, -⟩ := F.ex
  exact LamX.pe_lamcall hg hm F.kp look codeIs hb Sg hNg hva (hG cdv) TB hcode hmT hu hr L hdef hbind hbody hdb hd hcd
end
/-! what a lambda's making leaves of data -/
def nt (H : Hp) : Hp := fun b => match H b with
  | some (.tbl _) => none
  | o => o
theorem nt_same {H H' : Hp} (e : LamX.ExtN H H') : Same (nt H) H' := fun b o h => by
  unfold nt at h
  split at h
  · cases h
  · rename_i o' hn
    exact e b o h fun ps z => hn ps (by rw [h, z])
theorem nt_of {H : Hp} {b : Addr} {o : HO} (h : H b = some o) (n : ∀ ps, o ≠ .tbl ps) : nt H b = some o := by
  unfold nt
  split
  · rename_i ps hp
    rw [h] at hp
    exact absurd (Option.some.inj hp) (n ps)
  · exact h
mutual
theorem Dt.nt {H : Hp} : ∀ (d : PyData) (v : V), Dt H v d → Dt (nt H) v d
  | .none, _, h => by cases h; exact .non
  | .bool b, _, h => by cases h; exact .bl b
  | .int i, _, h => by cases h; exact .int i
  | .str x, _, h => by cases h; exact .str x
  | .list ds, _, h => by
    cases h with
    | lst hs ha => exact .lst (nt_of hs fun ps z => by cases z) (DtAll.nt ds _ ha)
  | .tuple ds, _, h => by
    cases h with
    | tup hs ha => exact .tup (nt_of hs fun ps z => by cases z) (DtAll.nt ds _ ha)
  | .dict ds, _, h => by
    cases h with
    | dic kvs hs => exact .dic kvs (nt_of hs fun ps z => by cases z)
theorem DtAll.nt {H : Hp} : ∀ (ds : List PyData) (vs : List V), DtAll H vs ds → DtAll (nt H) vs ds
  | [], _, h => by cases h; exact .nil
  | d :: ds, _, h => by
    cases h with
    | cons h1 h2 => exact .cons (Dt.nt d _ h1) (DtAll.nt ds _ h2)
end
theorem dt_ext {H H' : Hp} {v : V} {d : PyData} (h : Dt H v d) (e : LamX.ExtN H H') : Dt H' v d := (Dt.nt d v h).to (nt_same e)
/-! numbers of rows -/
theorem rowN_letters {m : Nat} (m0 : 0 < m) : ∀ n, ∀ x ∈ rowN m n, x < m := by
  intro n
  induction n using Nat.strongRecOn with
  | _ n ih =>
    cases n with
    | zero => rw [rowN]; exact fun x hx => nomatch hx
    | succ n =>
      rw [rowN, dif_pos m0]
      intro x hx
      rcases List.mem_append.mp hx with h | h
      · exact ih (n / m) (Nat.lt_succ_of_le (Nat.div_le_self _ _)) x h
      · rw [List.mem_singleton.mp h]
        exact Nat.mod_lt _ m0
theorem stand_behind {t : Tb} (i : Nat) : t.behind (rowN (2 ^ t.many) i) = standN (2 ^ t.many) t.next i := (standN_row (Nat.pow_pos (by decide)) i).symm
theorem stand_lt {t : Tb} (g : t.Good) (i : Nat) : standN (2 ^ t.many) t.next i < t.steps.length := by
  rw [← stand_behind]
  exact g.behind _ 0 g.some (rowN_letters (Nat.pow_pos (by decide)) i)
theorem firsts_ent {t : Tb} (g : t.Good) : firsts t = entL (2 ^ t.many) t.next (offN (2 ^ t.many) t.steps.length) := bfs_all (Nat.pow_pos (by decide)) (stand_lt g)
theorem ent_ne {m : Nat} {f : Nat → Nat → Nat} {n : Nat} (h : 0 < n) : entL m f n ≠ [] := by
  intro z
  have h2 : 0 ∈ Ent (standN m f) n := mem_ent.mpr ⟨h, fun j hj => by omega⟩
  unfold entL at z
  rw [List.map_eq_nil_iff.mp z] at h2
  cases h2
theorem off_pos {m n : Nat} (h : 0 < n) : 0 < offN m n := by
  cases n with
  | zero => omega
  | succ n => exact Nat.succ_pos _
def mostN (n : Nat) : Nat := [5, 5, 4, 3].getD n 0
theorem most_ok : ∀ n, n < 4 → ∀ k, k < mostN n → (2 ^ n) ^ k ≤ 64 := by decide
theorem most_le : ∀ n, n < 4 → 1 ≤ mostN n ∧ mostN n ≤ 5 := by decide
def optD : Option (List Nat) → PyData
  | none => .none
  | some l => .list (natD l)
/-- a row that was found, or none -/
def FA (H : Hp) (d : Addr) (v : V) (o : Option (List Nat)) : Prop := (o = none ∧ v = .non) ∨ ∃ row r, o = some row ∧ v = .ref r ∧ r ≠ d ∧ H r = some (.lst (natV row))
theorem FA.dt {H : Hp} {d : Addr} {v : V} {o : Option (List Nat)} (h : FA H d v o) : Dt H v (optD o) := by
  rcases h with ⟨rfl, rfl⟩ | ⟨row, r, rfl, rfl, _, hr⟩
  · exact .non
  · exact Dt.nats hr
structure DI (HB : Hp) (t : Tb) (d : Addr) (i j : Nat) (H : Hp) (es : List En) (fv : V) : Prop where
  same : Same HB H
  new : HB d = none
  at_ : H d = some (.lst (es.map fun e => V.ref e.t))
  each : ∀ e ∈ es, H e.t = some (.tup [.int (e.n : Int), .ref e.r]) ∧ H e.r = some (.lst (natV e.row)) ∧ e.r ≠ d
  list : es.map En.p = entL (2 ^ t.many) t.next i
  first : FA H d fv (((List.range j).find? fun x => t.ends.getD (standN (2 ^ t.many) t.next x) false).map (rowN (2 ^ t.many)))
theorem DI.to {HB : Hp} {t : Tb} {d : Addr} {i j : Nat} {H H' : Hp} {es : List En} {fv : V} (I : DI HB t d i j H es fv) (s : Same H H') : DI HB t d i j H' es fv :=
  ⟨I.same.trans s, I.new, s _ _ I.at_, fun e he => ⟨s _ _ (I.each e he).1, s _ _ (I.each e he).2.1, (I.each e he).2.2⟩, I.list, by
    rcases I.first with h | ⟨row, r, h1, h2, h3, h4⟩
    · exact .inl h
    · exact .inr ⟨row, r, h1, h2, h3, s _ _ h4⟩⟩
theorem DI.dt {HB : Hp} {t : Tb} {d : Addr} {i j : Nat} {H : Hp} {es : List En} {fv : V} (I : DI HB t d i j H es fv) : Dt H (.ref d) (.list (es.map fun e => pairD e.p)) := by
  refine .lst I.at_ ?_
  have h := I.each
  revert h
  generalize es = es
  intro h
  induction es with
  | nil => exact .nil
  | cons e r ih =>
    obtain ⟨h1, h2, _⟩ := h e (List.mem_cons_self ..)
    exact .cons (.tup h1 (.cons (.int _) (.cons (Dt.nats h2) .nil))) (ih fun x hx => h x (List.mem_cons_of_mem _ hx))
theorem eq_nil {H' : Hp} {E : Addr} {x : V} {ds : List PyData} {p : PyData → Bool} {Q : VK} (hx : Dt H' x (.list (ds.filter p))) (hE : H' E = none) (nd : ∀ d ∈ ds, Nice d) (h : Q (.bl (ds.filter p).isEmpty) (upd H' E (.lst []))) : rEqT x (.ref E) (upd H' E (.lst [])) Q := by
  refine ⟨_, .list [], hx.to (same_new' hE), .lst upd_same .nil, shaped_list fun d hd => nd d (List.mem_filter.mp hd).1, shaped_nil, ?_⟩
  rw [Hw.eqv_nil]
  exact h
theorem pow64' {t : Tb} (g : t.Good) : 2 ^ t.many ≤ 64 := Nat.le_trans (Nat.pow_le_pow_right (by decide) g.many) (by decide)
theorem line_bnd {tb : Tb} (h : tb.Good) (hf : tb.steps.length ≤ 1000) {r : List Nat} (hr : r ∈ tb.steps) : Bnd 1 64 (.list (natD r)) := by
  have h1 := h.line r hr
  have h2 := pow64' h
  exact bnd_nats (n := 64) (fun x hx => by have := h.stand r hr x hx; omega) (by omega)
theorem tb_nice {tb : Tb} (g : tb.Good) (hf : tb.steps.length ≤ 300) : Nice tb.d := by
  have hm := g.many
  refine Bnd.nice (k := 3) (b := 60000) (Bnd.tuple (k := 2) (b := 19500) (n := 3) (fun d hd => ?_) (Nat.le_refl _) (by decide)) (by decide) (by decide)
  simp only [List.mem_cons, List.not_mem_nil, or_false] at hd
  rcases hd with rfl | rfl | rfl
  · exact .int (by omega)
  · refine Bnd.list (k := 1) (b := 64) (n := 300) (fun d hd => ?_) (by rw [List.length_map]; exact hf) (by decide)
    obtain ⟨r, hr, rfl⟩ := List.mem_map.mp hd
    exact line_bnd g (by omega) hr
  · refine (Bnd.list (k := 0) (b := 0) (n := 300) (c := 300) (fun d hd => ?_) (by rw [List.length_map, g.same]; exact hf) (by decide)).up (by decide) (by decide)
    obtain ⟨r, hr, rfl⟩ := List.mem_map.mp hd
    exact .bl r
section
variable {P : Program} {w : World} {K : PySem.W.Frag} {mg : Str → Option Value} {base : Heap}
/-- the first row to an end, as it comes -/
def spTaken2 : Sp := fun vs H Q _ => ∃ (x : V) (t : Tb), vs = [x] ∧ Dt H x t.d ∧ t.Good ∧ Nice t.d ∧ t.steps.length ≤ 1000 ∧ ∀ (v : V) (H' : Hp), Same H H' → ((firstEnd t = none ∧ v = .non) ∨ ∃ row r, firstEnd t = some row ∧ v = .ref r ∧ H r = none ∧ H' r = some (.lst (natV row)) ∧ row.length ≤ t.steps.length) → Q v H'
theorem end_short {t : Tb} {es : List En} (e1 : es.map En.p = firsts t) (e3 : ∀ e ∈ es, e.n < t.steps.length ∧ e.row.length ≤ t.steps.length) {row : List Nat} (h : firstEnd t = some row) : row.length ≤ t.steps.length := by
  unfold firstEnd at h
  obtain ⟨p, hp, rfl⟩ := Option.map_eq_some_iff.mp h
  have := List.mem_of_find?_eq_some hp
  rw [← e1] at this
  obtain ⟨e, he, rfl⟩ := List.mem_map.mp this
  exact (e3 e he).2
theorem ok_taken2 (T : Tx K mg) : FnG P w K mg base CX0 6 T.a_first_taken T.d_first_taken ["table"] spTaken2 := by
  refine (FnG.ofOk (ok_first_taken T)).weak fun vs H Q E h => ?_
  obtain ⟨x, t, rfl, hx, g, nd, hz, q⟩ := h
  exact ⟨x, t, rfl, hx, g, nd, hz, fun h H' s => q _ _ s (.inl ⟨h, rfl⟩), fun row h hl r H' s hn hr => q _ _ s (.inr ⟨row, r, h, rfl, hn, hr, hl⟩)⟩
theorem ok_reached2 (T : Tx K mg) : FnG P w K mg base CX0 6 T.a_reached T.d_reached ["table"] spReached := FnG.ofOk (ok_reached T)
end
def Lq : Str := ("_law_right" ++ ".<locals>.") ++ "<lambda>"

end K14

set_option Elab.async false
set_option linter.all false
set_option maxRecDepth 100000
set_option maxHeartbeats 4000000
namespace K14
open PySem PySem.Spec PyProof.Rows L2 Hw

theorem rowN_le {m : Nat} (m0 : 0 < m) : ∀ n, (rowN m n).length ≤ n := by
  intro n
  induction n using Nat.strongRecOn with
  | _ n ih =>
    cases n with
    | zero => rw [rowN]; exact Nat.le_refl _
    | succ n =>
      have h := Nat.div_le_self n m
      have := ih (n / m) (Nat.lt_succ_of_le h)
      rw [rowN, dif_pos m0, List.length_append]
      show _ + 1 ≤ _
      omega
theorem off_small : ∀ n, n < 4 → ∀ k, k ≤ mostN n → offN (2 ^ n) k ≤ 100 := by decide
theorem ent_bnd {t : Tb} (g : t.Good) {k : Nat} : ∀ p ∈ entL (2 ^ t.many) t.next k, p.1 < t.steps.length ∧ p.2.length ≤ k ∧ ∀ x ∈ p.2, x < 2 ^ t.many := fun p hp => by
  unfold entL at hp
  obtain ⟨i, hi, rfl⟩ := List.mem_map.mp hp
  have m0 : 0 < 2 ^ t.many := Nat.pow_pos (by decide)
  have := (mem_ent.mp hi).1
  have := rowN_le m0 i
  exact ⟨stand_lt g i, by show (rowN _ i).length ≤ k; omega, rowN_letters m0 i⟩
theorem ent_nice {t : Tb} (g : t.Good) (hf : t.steps.length ≤ 5) {k : Nat} (hk : k ≤ 100) : ∀ p ∈ entL (2 ^ t.many) t.next k, Bnd 2 202 (pairD p) := fun p hp => by
  obtain ⟨h1, h2, h3⟩ := ent_bnd g p hp
  have := pow64' g
  exact bnd_pair (n := 100) (by omega) (fun x hx => by have := h3 x hx; omega) (by omega)
theorem due_eq (es : List En) : (es.map fun e => pairD e.p) = (es.map En.p).map pairD := by rw [List.map_map]; rfl
theorem ent_list_nice {t : Tb} (g : t.Good) (hf : t.steps.length ≤ 5) {k : Nat} (hk : k ≤ 100) {es : List En} (h : es.map En.p = entL (2 ^ t.many) t.next k) : Nice (.list (es.map fun e => pairD e.p)) := by
  rw [due_eq, h]
  refine (Bnd.list (k := 2) (b := 202) (n := 100) (c := 20300) (fun x hx => ?_) ?_ (by decide)).nice (by decide) (by decide)
  · obtain ⟨p, hp, rfl⟩ := List.mem_map.mp hx
    exact ent_nice g hf hk p hp
  · rw [List.length_map]
    unfold entL Ent
    rw [List.length_map]
    have := List.length_filter_le (fun i => decide (Fst (standN (2 ^ t.many) t.next) i)) (List.range k)
    rw [List.length_range] at this
    omega
def cvN (z m i j : Nat) : Nat := if i + 1 < z ∧ j + 1 = m then i + 1 else 0
theorem opt_nice {t : Tb} (g : t.Good) (ho : offN (2 ^ t.many) t.steps.length ≤ 100) : Nice (optD (firstEnd t)) := by
  cases h : firstEnd t with
  | none => exact (Bnd.non (k := 1) (b := 1)).nice (by decide) (by decide)
  | some row =>
    unfold firstEnd at h
    obtain ⟨p, hp, rfl⟩ := Option.map_eq_some_iff.mp h
    have mem := List.mem_of_find?_eq_some hp
    rw [firsts_ent g] at mem
    obtain ⟨_, h2, h3⟩ := ent_bnd g p mem
    have := pow64' g
    exact (bnd_nats (n := 100) (fun x hx => by have := h3 x hx; omega) (by omega)).nice (by decide) (by decide)
theorem taken_dt {H H' : Hp} {t : Tb} {v : V} (h : (firstEnd t = none ∧ v = .non) ∨ ∃ row r, firstEnd t = some row ∧ v = .ref r ∧ H r = none ∧ H' r = some (.lst (natV row)) ∧ row.length ≤ t.steps.length) : Dt H' v (optD (firstEnd t)) := by
  rcases h with ⟨h, rfl⟩ | ⟨row, r, h, rfl, _, hr, _⟩
  · rw [h]; exact .non
  · rw [h]; exact Dt.nats hr
def pfD (st : Nat) : PyData → Bool
  | .tuple (.int k :: _) => decide (V.int k = V.int (st : Int))
  | _ => false
theorem pfD_pair (st : Nat) (p : Nat × List Nat) : pfD st (pairD p) = (p.1 == st) := by
  show decide (V.int (p.1 : Int) = V.int (st : Int)) = _
  by_cases h : p.1 = st
  · rw [h]; simp
  · rw [decide_eq_false (fun z => h (by injection z with z; omega))]
    exact (by simpa using h : (p.1 == st) = false).symm
theorem filter_fst {m : Nat} {f : Nat → Nat → Nat} {k : Nat} {es : List En} (h : es.map En.p = entL m f k) : ((es.map fun e => pairD e.p).filter (pfD (standN m f k))).isEmpty = decide (Fst (standN m f) k) := by
  have e1 : ((es.map fun e => pairD e.p).filter (pfD (standN m f k))).isEmpty = !(entL m f k).any fun y => y.1 == standN m f k := by
    rw [due_eq, h]
    generalize entL m f k = l
    induction l with
    | nil => rfl
    | cons p r ih =>
      rw [List.map_cons, List.any_cons]
      cases hp : (p.1 == standN m f k) with
      | true => rw [List.filter_cons_of_pos (by rw [pfD_pair, hp])]; rfl
      | false => rw [List.filter_cons_of_neg (by rw [pfD_pair, hp]; decide), ih]; rfl
  rw [e1]
  cases hs : (entL m f k).any fun y => y.1 == standN m f k with
  | true =>
    obtain ⟨j, hj, hje⟩ := (entL_seen k _).mp hs
    exact (decide_eq_false (p := Fst (standN m f) k) fun z => z j hj hje).symm
  | false =>
    refine (decide_eq_true (p := Fst (standN m f) k) fun j hj hje => ?_).symm
    have := (entL_seen (m := m) (f := f) k (standN m f k)).mpr ⟨j, hj, hje⟩
    rw [hs] at this
    cases this
section
variable {P : Program} {w : World} {K : PySem.W.Frag} {mg : Str → Option Value} {base : Heap}
/-- what stays: all but the generator and the tables of code objects -/
def Stay (a : Addr) (H H' : Hp) : Prop := ∀ b o, b ≠ a → H b = some o → (∀ ps, o ≠ .tbl ps) → H' b = some o
def spRight (tt : Addr) : Sp := fun vs H Q _ => ∃ (a : Addr) (t m : Int), vs = [.ref a] ∧ Gn a t m H ∧ m + 100000 < 4294967296 ∧ LamX.Tabs [(tt, Lq)] (off a H) ∧ ∀ H', Stay a H H' → LamX.Tabs [(tt, Lq)] H' → Q (.bl true) H'
theorem ok_law_right {c tt : Addr} (T : Tx K mg) (hcode : T.d_law_right.code = .ref c) (TB : LamX.TabB base mg c tt) : FnG P w K mg base CX0 9 T.a_law_right T.d_law_right ["_law_generator_here"] (spRight tt) := by
  have G_law_random := ok_rnd (P := P) (w := w) (base := base) T
  have G_law_two := ok_law_two (P := P) (w := w) (base := base) T
  have G_law_table := ok_law_table (P := P) (w := w) (base := base) T
  have G_law_rows := ok_law_rows (P := P) (w := w) (base := base) T
  have G_law_behind := ok_law_behind (P := P) (w := w) (base := base) T
  have G_reached := ok_reached2 (P := P) (w := w) (base := base) T
  have G_first_taken := ok_taken2 (P := P) (w := w) (base := base) T
  refine bodyGc0 T.F_law_right hcode sc_law_right (fun vs H Q E h => ?_) (fun A outer s H vs Q E gd hr h => ?_)
  · obtain ⟨a, t, m, rfl, _⟩ := h; rfl
  · obtain ⟨a, t, m, rfl, g0, hm, tabs, q⟩ := h
    refine ⟨_, (pss_cons (ps_set (i := 1) sc_law_right.nd rfl (Or.inr rfl) (pe_g G_law_random gd (hr.mono (by decide)) (by rfl) T.g_law_random T.F_law_random.kp T.b_law_random .nil pass0 (pa_cons (pv 0) (pa_cons pe_int pa_nil))))
      (pss_cons (ps_set (i := 11) sc_law_right.nd rfl (Or.inr rfl) (pe_g G_law_table gd (hr.mono (by decide)) (by rfl) T.g_law_table T.F_law_table.kp T.b_law_table .nil pass0 (pa_cons (pv 0) (pa_cons (pv 1) (pa_cons (pe_ix (ix_listK (K := K) rfl) (pe_lst (pa_cons pe_int (pa_cons pe_int (pa_cons pe_int (pa_cons pe_int pa_nil))))) (pv 1) (fun _ _ => rfl)) pa_nil)))))
      (pss_cons (ps_set (i := 2) sc_law_right.nd rfl (Or.inr rfl) (pe_callB (call_lenK (K := K) rfl) (by rfl) T.z_len (by decide +kernel) (pa_cons (pe_ix (ix_tupK (K := K) rfl) (pv 11) pe_int (fun _ _ => rfl)) pa_nil)))
      (C8.pss_cut (ps_if (pt_cmpR op_eq (pe_g G_law_random gd (hr.mono (by decide)) (by rfl) T.g_law_random T.F_law_random.kp T.b_law_random .nil pass0 (pa_cons (pv 0) (pa_cons pe_int pa_nil))) pe_int (nomark _)) (pss_one (ps_set (i := 11) sc_law_right.nd rfl (Or.inr rfl) (pe_tup (pa_cons (pv 1) (pa_cons (pe_lc (own := [("_law_at", 12)]) (g := gName 12) (tt := tYes) rfl sc_law_right.nd (pi_range1 (by rfl) T.z_range (pa_cons (pv 2) pa_nil)) (blkOk_by (N := ["_law_generator_here", "_law_many", "_law_size", "_law_kept_here", "_law_due", "_law_first", "_law_length_there", "_law_row_there", "_law_stand", "_law_told", "_law_again", "_law_known", "_law_at", "_law_letter", "_law_item"]) (sc := defScope s_law_right) (by decide +kernel)) (fun _ _ _ _ _ => (pg_name (i := 12) sc_law_right.nd rfl (Or.inr rfl))) (fun _ _ _ _ _ => pts_nil) (fun _ _ _ _ _ => (pe_lc (own := [("_law_letter", 13)]) (g := gName 13) (tt := tYes) rfl sc_law_right.nd (pi_range1 (by rfl) T.z_range (pa_cons (pe_g G_law_two gd (hr.mono (by decide)) (by rfl) T.g_law_two T.F_law_two.kp T.b_law_two .nil pass0 (pa_cons (pv 1) pa_nil)) pa_nil)) (blkOk_by (by kernel_rfl)) (fun _ _ _ _ _ => (pg_name (i := 13) sc_law_right.nd rfl (Or.inl rfl))) (fun _ _ _ _ _ => pts_nil) (fun _ _ _ _ _ => (pe_ifExp (PW.pt (pw_and (pt_cmpR op_lt (pe_op op_add (pv 12) pe_int) (pv 2) (nomark _)) (pw_and1 (pt_cmpR op_eq (pv 13) (pe_op op_sub (pe_g G_law_two gd (hr.mono (by decide)) (by rfl) T.g_law_two T.F_law_two.kp T.b_law_two .nil pass0 (pa_cons (pv 1) pa_nil)) pe_int) (nomark _))))) (pe_op op_add (pv 12) pe_int) pe_int))))) (pa_cons (pe_ix (ix_tupK (K := K) rfl) (pv 11) pe_int (fun _ _ => rfl)) pa_nil)))))) pss_nil)
      (pss_cons (ps_par3 (i := 3) (j := 4) (l := 5) rfl sc_law_right.nd rfl rfl rfl (by decide) (by decide) (by decide) rfl rfl rfl (pa_cons (pe_callB (call_reprT gd hr.units) (by rfl) T.z_repr (by decide +kernel) (pa_cons (pv 11) pa_nil)) (pa_cons (pe_lst pa_nil) (pa_cons pe_non pa_nil))) (by rfl))
      (C8.pss_cut (ps_for PassesOwn.never rfl (pi_range1 (by rfl) T.z_range (pa_cons (pv 2) pa_nil)) (pg_name (i := 6) sc_law_right.nd rfl (Or.inl rfl)) (pss_one (ps_for PassesOwn.never rfl (pi_list (pe_g G_law_rows gd (hr.mono (by decide)) (by rfl) T.g_law_rows T.F_law_rows.kp T.b_law_rows .nil pass0 (pa_cons (pv 1) (pa_cons (pv 6) pa_nil)))) (pg_name (i := 7) sc_law_right.nd rfl (Or.inl rfl)) (pss_cons (ps_set (i := 8) sc_law_right.nd rfl (Or.inr rfl) (pe_g G_law_behind gd (hr.mono (by decide)) (by rfl) T.g_law_behind T.F_law_behind.kp T.b_law_behind .nil pass0 (pa_cons (pv 11) (pa_cons (pv 7) pa_nil))))
      (C8.pss_cut (ps_if (pt_cmpR (op_eqT hr.units) (pe_lc (own := [("_law_item", 14)]) (g := gName 14) rfl sc_law_right.nd (pi_list (pv 4)) (blkOk_by (N := ["_law_generator_here", "_law_many", "_law_size", "_law_kept_here", "_law_due", "_law_first", "_law_length_there", "_law_row_there", "_law_stand", "_law_told", "_law_again", "_law_known", "_law_at", "_law_letter", "_law_item"]) (sc := defScope s_law_right) (by decide +kernel)) (fun _ _ _ _ _ => (pg_name (i := 14) sc_law_right.nd rfl (Or.inl rfl))) (fun _ _ _ _ _ => (pts_one (pt_cmpR op_eq (pe_ix (ix_tupK (K := K) rfl) (pv 14) pe_int (fun _ _ => rfl)) (pv 8) (nomark _)))) (fun _ _ _ _ _ => (pv 14))) (pe_lst pa_nil) (nomark _)) (pss_one (ps_expr (pe_bm PySem.F.plainAttrs_list PySem.F.slot_list_append PySem.F.type_list_append mt_append (pv 4) (pa_cons (pe_tup (pa_cons (pv 8) (pa_cons (pv 7) pa_nil))) pa_nil)))) pss_nil)
      (pss_one (ps_if (PW.pt (pw_and (pt_cmpR op_isN (pv 5) pe_non (nomark _)) (pw_and1 (pt_val (pe_ix (ix_listK (K := K) rfl) (pe_ix (ix_tupK (K := K) rfl) (pv 11) pe_int (fun _ _ => rfl)) (pv 8) (fun _ _ => rfl)))))) (pss_one (ps_set (i := 5) sc_law_right.nd rfl (Or.inl rfl) (pv 7))) pss_nil)))))))
      (pss_cons (ps_set (i := 9) sc_law_right.nd rfl (Or.inl rfl) (pe_g G_reached gd (hr.mono (by decide)) (by rfl) T.g_reached T.F_reached.kp T.b_reached .nil pass0 (pa_cons (pv 11) pa_nil)))
      (pss_cons (ps_if (PW.pt (pw_or (pt_cmpR op_ne (pe_callB (call_reprT gd hr.units) (by rfl) T.z_repr (by decide +kernel) (pa_cons (pv 9) pa_nil)) (pe_callB (call_reprT gd hr.units) (by rfl) T.z_repr (by decide +kernel) (pa_cons (pv 4) pa_nil)) (nomark _)) (pw_or (pt_cmpR op_ne (pe_callB (call_reprT gd hr.units) (by rfl) T.z_repr (by decide +kernel) (pa_cons (pe_g G_first_taken gd (hr.mono (by decide)) (by rfl) T.g_first_taken T.F_first_taken.kp T.b_first_taken .nil pass0 (pa_cons (pv 11) pa_nil)) pa_nil)) (pe_callB (call_reprT gd hr.units) (by rfl) T.z_repr (by decide +kernel) (pa_cons (pv 5) pa_nil)) (nomark _)) (pw_or1 (pt_cmpR op_ne (pe_callB (call_reprT gd hr.units) (by rfl) T.z_repr (by decide +kernel) (pa_cons (pv 11) pa_nil)) (pv 3) (nomark _)))))) (pss_one (ps_ret pe_bl)) pss_nil)
      (pss_cons (ps_for PassesOwn.never rfl (pi_list (pv 9)) (pg_tup (by rfl) (pgs_cons (pg_name (i := 8) sc_law_right.nd rfl (Or.inr rfl)) (pgs_cons (pg_name (i := 7) sc_law_right.nd rfl (Or.inl rfl)) pgs_nil))) (pss_one (ps_expr (pe_bm PySem.F.plainAttrs_list PySem.F.slot_list_append PySem.F.type_list_append mt_append (pv 7) (pa_cons pe_int pa_nil)))))
      (pss_cons (ps_expr (pe_bm PySem.F.plainAttrs_list PySem.F.slot_list_append PySem.F.type_list_append mt_append (pv 9) (pa_cons pe_int pa_nil)))
      (pss_cons (ps_set (i := 10) sc_law_right.nd rfl (Or.inl rfl) (pe_g G_first_taken gd (hr.mono (by decide)) (by rfl) T.g_first_taken T.F_first_taken.kp T.b_first_taken .nil pass0 (pa_cons (pv 11) pa_nil)))
      (C8.pss_cut (ps_if (pt_cmpR op_notN (pv 10) pe_non (nomark _)) (pss_one (ps_expr (pe_bm PySem.F.plainAttrs_list PySem.F.slot_list_append PySem.F.type_list_append mt_append (pv 10) (pa_cons pe_int pa_nil)))) pss_nil)
      (pss_cons (ps_if (PW.pt (pw_or (pt_not (pt_val (pe_lam (k := 6) (T := [(tt, Lq)]) (TT := fun tl H Q => ∃ t, TTf t tl H Q) (t := fun _ => tCall spReached [] E0 (tCons (tVar 11) tNil)) T.F_law_fresh (by rfl) T.g_law_fresh T.b_law_fresh sc_law_fresh rfl (Or.inl rfl) (fun cdg f1 c1 s1 H1 Q1 tl act hc h => by obtain ⟨tb, h⟩ := h; exact fresh_gives T gd (hr.mono (by decide)) cdg tb f1 c1 s1 H1 Q1 tl act hc h) TB rfl (List.mem_singleton.mpr rfl) (fun p hp _ => by rw [List.mem_singleton.mp hp]; rfl) (hr.mono (by decide)) (LamX.lamS_by (by show LamX.lamSB (defScope s_law_right) _ = true; decide +kernel)) rfl (fun _ _ _ _ _ => rfl) (fun A2 outer2 s2 H2 E2 f2 c2 hr2 => pe_call (ok_reached T) hr2 (by rfl) T.g_reached T.F_reached.kp T.b_reached .nil pass0 (pa_cons (pv 11) pa_nil))))) (pw_or1 (pt_cmpR op_ne (pe_callB (call_reprT gd hr.units) (by rfl) T.z_repr (by decide +kernel) (pa_cons (pv 11) pa_nil)) (pv 3) (nomark _))))) (pss_one (ps_ret pe_bl)) pss_nil)
      (pss_one (ps_ret (pe_and (pe_cmpR op_eq (pe_callB (call_reprT gd hr.units) (by rfl) T.z_repr (by decide +kernel) (pa_cons (pe_g G_reached gd (hr.mono (by decide)) (by rfl) T.g_reached T.F_reached.kp T.b_reached .nil pass0 (pa_cons (pv 11) pa_nil)) pa_nil)) (pe_callB (call_reprT gd hr.units) (by rfl) T.z_repr (by decide +kernel) (pa_cons (pv 4) pa_nil)) (nomark _)) (pe_and (pe_cmpR op_eq (pe_callB (call_reprT gd hr.units) (by rfl) T.z_repr (by decide +kernel) (pa_cons (pe_g G_first_taken gd (hr.mono (by decide)) (by rfl) T.g_first_taken T.F_first_taken.kp T.b_first_taken .nil pass0 (pa_cons (pv 11) pa_nil)) pa_nil)) (pe_callB (call_reprT gd hr.units) (by rfl) T.z_repr (by decide +kernel) (pa_cons (pv 5) pa_nil)) (nomark _)) (pe_one (pe_cmpR op_eq (pe_callB (call_reprT gd hr.units) (by rfl) T.z_repr (by decide +kernel) (pa_cons (pv 11) pa_nil)) (pv 3) (nomark _)))))))))))))))))))), ?_⟩
    have le1 : ∀ {n : Nat}, n ≤ 10000 → n ≤ sizeLine := fun h => by rw [sizeLine_eq]; omega
    have big : ∀ {b : Nat}, b ≤ 10 → b < 2 ^ 2000 := fun {b} hb => by
      have : (10 : Nat) < 2 ^ 2000 := by decide +kernel
      omega
    refine ⟨_, rfl, a, 4, t, m, rfl, g0, by omega, by decide, big (by decide), fun n H1 hn x1 g1 => ?_⟩
    have hml := most_le n hn
    refine ⟨_, rfl, _, rfl, le1 (by show 4 ≤ 10000; decide), fun D hD => ⟨_, rfl, D, _, n, .int (mostN n : Int), rfl, rfl, .inl (.inl upd_same), atI_nat ?_, ?_⟩⟩
    · match n, hn with
      | 0, _ => rfl
      | 1, _ => rfl
      | 2, _ => rfl
      | 3, _ => rfl
    have xD : SameX a H1 (upd H1 D (.lst [.int 5, .int 5, .int 4, .int 3])) := SameX.of (same_new' hD)
    have gD := g1.same (same_new' (o := .lst [.int 5, .int 5, .int 4, .int 3]) hD)
    refine ⟨a, t, _, n, mostN n, rfl, gD, by omega, by omega, hml.1, hml.2, fun x tb H2 x2 g2 dx good hmany hfew => ?_⟩
    have x02 := x1.trans (xD.trans x2)
    obtain ⟨a1, b1, c1, ys, rfl, ha1, hb1, hyl, hrow1, hc1, hys⟩ := dx.tab
    have on : ∀ {b o}, off a H2 b = some o → H2 b = some o := fun h => (off_at h).2
    refine ⟨_, rfl, a1, _, 1, _, rfl, rfl, .inl (.inl (on ha1)), rfl, b1, ys, rfl, .inl (.inl (.inl (on hb1))), ?_⟩
    rw [hyl]
    -- the two tables
    refine ⟨fun σ HB => ∃ (x : V) (t : Tb), σ = [some (.ref a), some (.int (n : Int)), some (.int (t.steps.length : Int)), none, none, none, none, none, none, none, none, some x, none, none, none] ∧ SameX a H HB ∧ Dt HB x t.d ∧ t.Good ∧ t.many = n ∧ t.steps.length ≤ mostN n, ?_, ?_⟩
    · refine ⟨_, rfl, a, 3, t, _, rfl, g2, by omega, by decide, big (by decide), fun r3 H3 hr3 x3 g3 => ?_⟩
      have dx3 : Dt (off a H3) (.ref a1) tb.d := dx.to x3.off
      have x03 := x02.trans x3
      refine ⟨rfl, _, rfl, ?_⟩
      by_cases h3 : V.int (r3 : Int) = V.int 0
      · rw [decide_eq_true h3]
        have dn := dx3.on
        obtain ⟨a2, b2, c2, ys2, e2, ha2, _, _, _, hc2, _⟩ := dn.tab
        cases e2
        refine iteT ⟨_, rfl, _, rfl, tb.steps.length, rfl, by omega, by omega, fun D hD => ?_⟩
        have zs := good.some
        have c8 : (2 : Nat) ^ n ≤ 8 := Nat.le_trans (Nat.pow_le_pow_right (by decide) (show n ≤ 3 by omega)) (by decide)
        have m0 : 0 < 2 ^ n := Nat.pow_pos (by decide)
        have ges := good.same
        generalize hz : tb.steps.length = z at zs hfew ges ⊢
        refine lc_range (lo := 0) (n := z) (fun i H' => Same H3 H' ∧ ∃ vs, H' D = some (.lst vs) ∧ DtAll (off D H') vs (((List.range i).map fun i => (List.range (2 ^ n)).map (cvN z (2 ^ n) i)).map fun l => PyData.list (natD l)) ∧ vs.length = i) ⟨same_new' hD, [], upd_same, .nil, rfl⟩ ?_ ?_
        · rintro i H4 hi ⟨s4, vs, e4, dv, lv⟩
          refine ⟨rfl, yes_if ?_⟩
          refine ⟨_, rfl, n, rfl, by omega, _, rfl, ?_⟩
          refine ⟨by omega, by omega, fun D2 hD2 => ?_⟩
          refine lc_range (lo := 0) (n := 2 ^ n) (fun j H' => Same H4 H' ∧ H' D2 = some (.lst ((List.range j).map fun j => V.int (cvN z (2 ^ n) i j : Int)))) ⟨same_new' hD2, upd_same⟩ ?_ ?_
          · rintro j H5 hj ⟨s5, e5⟩
            refine ⟨rfl, yes_if ?_⟩
            refine ⟨_, rfl, _, _, rfl, rfl, _, rfl, _, _, rfl, rfl, _, rfl, ?_⟩
            have zero : ¬ (i + 1 < z ∧ j + 1 = 2 ^ n) → V.int 0 = V.int (cvN z (2 ^ n) i j : Int) := fun h => by unfold cvN; rw [if_neg h]; rfl
            by_cases h1 : (0 + (i : Int)) + 1 < (z : Int)
            · rw [decide_eq_true h1]
              refine iteT ⟨_, rfl, _, rfl, n, rfl, by omega, _, _, rfl, rfl, rfl, _, rfl, ?_⟩
              by_cases h2 : V.int (0 + (j : Int)) = V.int (((2 ^ n : Nat) : Int) - 1)
              · rw [decide_eq_true h2]
                refine iteT ⟨_, rfl, _, _, rfl, rfl, ?_⟩
                have h2' : j + 1 = 2 ^ n := by injection h2 with h2; omega
                dsimp only
                rw [show V.int ((0 + (i : Int)) + 1) = V.int (cvN z (2 ^ n) i j : Int) by unfold cvN; rw [if_pos ⟨by omega, h2'⟩]; congr 1; omega]
                exact lcS (f := fun j => V.int (cvN z (2 ^ n) i j : Int)) hD2 s5 e5 (by omega)
              · rw [decide_eq_false h2]
                refine iteF ?_
                show ∃ acc, _
                rw [zero fun h => h2 (by congr 1; omega)]
                exact lcS (f := fun j => V.int (cvN z (2 ^ n) i j : Int)) hD2 s5 e5 (by omega)
            · rw [decide_eq_false h1]
              refine iteF ?_
              show ∃ acc, _
              rw [zero fun h => h1 (by omega)]
              exact lcS (f := fun j => V.int (cvN z (2 ^ n) i j : Int)) hD2 s5 e5 (by omega)
          · rintro H5 ⟨s5, e5⟩
            have nDD : D ≠ D2 := ne_of_none e4 hD2
            have kp : Same (off D H4) (off D (upd H5 D (.lst (vs ++ [.ref D2])))) := fun b o hb => by
              obtain ⟨n1, hb⟩ := off_at hb
              exact off_of n1 (by rw [upd_ne n1]; exact s5 _ _ hb)
            refine ⟨vs, s5 _ _ e4, by rw [lv, sizeLine_eq]; omega, fun b o hb => ?_, vs ++ [.ref D2], upd_same, ?_, by rw [List.length_append, lv]; rfl⟩
            · rw [upd_ne (ne_of_none hb hD)]
              exact s5 _ _ (s4 _ _ hb)
            · rw [List.range_succ, List.map_append, List.map_append]
              refine (dv.to kp).app (.one ?_)
              refine Dt.nats (l := (List.range (2 ^ n)).map (cvN z (2 ^ n) i)) (off_of nDD.symm ?_)
              rw [upd_ne nDD.symm, e5]
              unfold natV
              rw [List.map_map]
              rfl
        · rintro H4 ⟨s4, vs, e4, dv, lv⟩
          refine ⟨_, rfl, a1, _, 2, _, rfl, rfl, .inl (.inl (s4 _ _ ha2)), rfl, le1 (by show 3 ≤ 10000; decide), fun p hp => ?_⟩
          have sp := same_new' (o := .tup [.int (n : Int), .ref D, .ref c2]) hp
          have L1 : ((List.range z).map fun i => (List.range (2 ^ n)).map (cvN z (2 ^ n) i)).length = z := by rw [List.length_map, List.length_range]
          refine ⟨.ref p, ⟨n, (List.range z).map fun i => (List.range (2 ^ n)).map (cvN z (2 ^ n) i), tb.ends⟩, by rw [L1]; rfl, (x03.trans (SameX.of s4)).trans (SameX.of sp), ?_, ⟨by show n ≤ 6; omega, by rw [L1]; exact zs, by rw [L1]; exact ges, fun l hl => ?_, fun l hl x hx => ?_⟩, rfl, by rw [L1]; exact hfew⟩
          · exact .tup upd_same (.cons (.int _) (.cons (.lst (sp _ _ e4) (dv.to (off_same.trans sp))) (.cons (.lst (sp _ _ (s4 _ _ hc2)) (DtAll.bls _)) .nil)))
          · obtain ⟨i, _, rfl⟩ := List.mem_map.mp hl
            rw [List.length_map, List.length_range]
          · obtain ⟨i, hi, rfl⟩ := List.mem_map.mp hl
            obtain ⟨j, hj, rfl⟩ := List.mem_map.mp hx
            rw [L1]
            unfold cvN
            split
            · rename_i h; exact h.1
            · exact zs
      · rw [decide_eq_false h3]
        exact iteF ⟨_, tb, rfl, x03, dx3.on, good, hmany, hfew⟩
    clear hrow1 hc1 hys on ha1 hb1 hyl dx x02 x2 xD gD g2 good hmany hfew
    clear tb ys c1 b1 a1
    rintro σ HB ⟨x, tb, rfl, xB, dx, good, hmany, hfew⟩
    have gs := good.some
    have nice : Nice tb.d := tb_nice good (by omega)
    have tabsB : LamX.Tabs [(tt, Lq)] HB := tabs.ext fun b o h => off_same b o (xB.off b o h)
    have pos := off_pos (m := 2 ^ tb.many) gs
    have ask : Ask tb := ⟨good, nice, by omega, by omega, by rw [firsts_ent good]; exact ent_ne pos⟩
    have m0 : 0 < 2 ^ tb.many := Nat.pow_pos (by decide)
    have m8 : 2 ^ tb.many ≤ 8 := Nat.le_trans (Nat.pow_le_pow_right (by decide) (show tb.many ≤ 3 by omega)) (by decide)
    -- the row of repr and the empty list of what is due
    refine ⟨_, rfl, _, _, rfl, dx, nice.shows, Nat.zero_le _, fun d hd => ⟨_, _, _, rfl, ?_⟩⟩
    have I0 : DI HB tb d 0 0 (upd HB d (.lst [])) [] .non := by
      have s1 := same_new' (o := .lst []) hd
      exact ⟨s1, hd, upd_same, fun e he => (nomatch he), rfl, Or.inl ⟨rfl, rfl⟩⟩
    revert I0
    generalize (upd HB d (.lst [])) = H4
    intro I0
    refine ⟨fun σ H' => ∃ (es : List En) (fv : V) (z6 z7 z8 : Option V), σ = [some (.ref a), some (.int (n : Int)), some (.int (tb.steps.length : Int)), some (.str tb.d.shown), some (.ref d), some fv, z6, z7, z8, none, none, some x, none, none, none] ∧ DI HB tb d (offN (2 ^ tb.many) tb.steps.length) (offN (2 ^ tb.many) tb.steps.length) H' es fv, ?_, ?_⟩
    · refine ⟨_, rfl, tb.steps.length, rfl, by omega, by omega, ?_⟩
      refine for_range (lo := 0) (n := tb.steps.length) (fun i σ H' => ∃ (es : List En) (fv : V) (z6 z7 z8 : Option V), σ = [some (.ref a), some (.int (n : Int)), some (.int (tb.steps.length : Int)), some (.str tb.d.shown), some (.ref d), some fv, z6, z7, z8, none, none, some x, none, none, none] ∧ DI HB tb d (offN (2 ^ tb.many) i) (offN (2 ^ tb.many) i) H' es fv) ⟨[], .non, _, _, _, rfl, I0⟩ ?_ ?_
      · rintro i σ H5 hi ⟨es, fv, z6, z7, z8, rfl, I⟩
        have pw := most_ok n hn i (by omega)
        refine ⟨_, rfl, _, rfl, n, i, by rw [Int.zero_add]; rfl, by omega, by omega, by omega, fun c H6 rs s6 hcn hc lr R fr => ?_⟩
        rw [← hmany] at lr R
        have dc : d ≠ c := ne_of_none I.at_ hcn
        have rd : ∀ r ∈ rs, r ≠ d := fun r hr z => by
          have := fr r hr
          rw [z, I.at_] at this
          cases this
        have I := I.to s6
        have off1 := off_pow (2 ^ tb.many) i
        have offs : offN (2 ^ tb.many) (i + 1) ≤ 100 := by rw [hmany]; exact off_small n hn (i + 1) (by omega)
        refine ⟨c, rfl, ⟨_, .inl (.inl hc)⟩, ?_⟩
        refine for_list (K := K) (a := c) (xs := rs.map V.ref) (fun j σ H' => ∃ (es : List En) (fv : V) (z7 z8 : Option V), σ = [some (.ref a), some (.int (n : Int)), some (.int (tb.steps.length : Int)), some (.str tb.d.shown), some (.ref d), some fv, some (.int (0 + (i : Int))), z7, z8, none, none, some x, none, none, none] ∧ SameX d H6 H' ∧ DI HB tb d (offN (2 ^ tb.many) i + j) (offN (2 ^ tb.many) i + j) H' es fv) ⟨es, fv, _, _, rfl, SameX.refl _ _, I⟩ (fun j σ H' _ ⟨_, _, _, _, _, e, _⟩ => .inl (.inl (e _ _ dc.symm hc))) ?_ ?_
        · rintro j y σ H7 hj ⟨es, fv, z7, z8, rfl, s7, I⟩
          rw [List.getElem?_map] at hj
          obtain ⟨r, hr2, rfl⟩ := Option.map_eq_some_iff.mp hj
          have jl : j < rs.length := (List.getElem?_eq_some_iff.mp hr2).1
          have rm := List.mem_of_getElem? hr2
          have hrow := s7 _ _ (rd r rm) (R j r hr2)
          have dx7 : Dt H7 x tb.d := dx.to I.same
          generalize hk : offN (2 ^ tb.many) i + j = k at I hrow
          have k100 : k + 1 ≤ 100 := by omega
          refine ⟨_, rfl, _, rfl, x, tb, r, _, rfl, dx7, good, hrow, rowN_letters m0 k, ?_⟩
          rw [stand_behind]
          have sl := stand_lt good k
          generalize hst : standN (2 ^ tb.many) tb.next k = st at sl
          refine ⟨fun σ H' => ∃ (es : List En), σ = [some (.ref a), some (.int (n : Int)), some (.int (tb.steps.length : Int)), some (.str tb.d.shown), some (.ref d), some fv, some (.int (0 + (i : Int))), some (.ref r), some (.int (st : Int)), none, none, some x, none, none, none] ∧ SameX d H6 H' ∧ DI HB tb d (k + 1) k H' es fv, ?_, ?_⟩
          · refine ⟨_, rfl, d, rfl, ⟨_, .inl (.inl I.at_)⟩, fun D hD => ?_⟩
            refine lc_list (K := K) (a := d) (xs := es.map fun e => V.ref e.t) (fun i H' => Flt (es.map fun e => pairD e.p) (pfD st) H7 D i H') (Flt.start hD) (fun i H' _ e => .inl (.inl (e.1 _ _ I.at_))) ?_ ?_
            · rintro i2 v H' hi2 f
              rw [List.getElem?_map] at hi2
              obtain ⟨e, he, rfl⟩ := Option.map_eq_some_iff.mp hi2
              have em := List.mem_of_getElem? he
              obtain ⟨et, er, _⟩ := I.each e em
              have hdi : (es.map fun e => pairD e.p)[i2]? = some (pairD e.p) := by rw [List.getElem?_map, he]; rfl
              have il : i2 < es.length := (List.getElem?_eq_some_iff.mp he).1
              have hel : es.length ≤ 100 := by
                have h1 : (es.map En.p).length ≤ k := by
                  rw [I.list]
                  unfold entL Ent
                  rw [List.length_map]
                  have := List.length_filter_le (fun i => decide (Fst (standN (2 ^ tb.many) tb.next) i)) (List.range k)
                  rwa [List.length_range] at this
                rw [List.length_map] at h1
                omega
              have hy : Dt H7 (.ref e.t) (pairD e.p) := .tup et (.cons (.int _) (.cons (Dt.nats er) .nil))
              refine ⟨rfl, _, rfl, e.t, _, 0, _, rfl, rfl, .inl (.inl (f.1 _ _ et)), rfl, _, rfl, rfl, _, rfl, ?_⟩
              have pe : pfD st (pairD e.p) = decide (V.int (e.n : Int) = V.int (st : Int)) := rfl
              cases hp : decide (V.int (e.n : Int) = V.int (st : Int)) with
              | true => exact iteT ⟨_, rfl, f.keep hD hdi (pe.trans hp) hy (by omega)⟩
              | false => exact iteF (f.skip hdi (pe.trans hp))
            rintro H8 f
            obtain ⟨s8, hfl⟩ := f.done (by rw [List.length_map, List.length_map])
            refine ⟨Nat.zero_le _, fun E8 hE8 => ?_⟩
            refine eq_nil hfl hE8 (fun d hd => by
              obtain ⟨e, he, rfl⟩ := List.mem_map.mp hd
              exact (ent_nice good (by omega) (k := k) (by omega) e.p (by rw [← I.list]; exact List.mem_map_of_mem he)).nice (by decide) (by decide)) ⟨_, rfl, ?_⟩
            rw [← hst, filter_fst I.list]
            have s9 := s8.trans (same_new' (o := .lst []) hE8)
            generalize (upd H8 E8 (.lst [])) = H9 at s9
            have I9 := I.to s9
            have s69 : SameX d H6 H9 := s7.trans (SameX.of s9)
            by_cases hF : Fst (standN (2 ^ tb.many) tb.next) k
            · rw [decide_eq_true hF]
              refine iteT ⟨_, rfl, .inl ⟨rfl, _, .inl (.inl I9.at_)⟩, _, rfl, _, rfl, le1 (by show 2 ≤ 10000; decide), fun u hu => ?_⟩
              rw [hst]
              have su := same_new' (o := .tup [.int (st : Int), .ref r]) hu
              have ua : (upd H9 u (.tup [.int (st : Int), .ref r])) u = some (.tup [.int (st : Int), .ref r]) := upd_same
              have IA := I9.to su
              have s6A := s69.trans (SameX.of su)
              generalize (upd H9 u (.tup [.int (st : Int), .ref r])) = HA at su ua IA s6A
              have hel : es.length ≤ 100 := by
                have h1 : (es.map En.p).length ≤ k := by
                  rw [I.list]
                  unfold entL Ent
                  rw [List.length_map]
                  have := List.length_filter_le (fun i => decide (Fst (standN (2 ^ tb.many) tb.next) i)) (List.range k)
                  rwa [List.length_range] at this
                rw [List.length_map] at h1
                omega
              have ud : u ≠ d := ne_obj ua IA.at_ (fun z => by cases z)
              refine ⟨d, _, _, rfl, rfl, IA.at_, by rw [List.length_map, sizeLine_eq]; omega, es ++ [⟨st, rowN (2 ^ tb.many) k, u, r⟩], rfl, s6A.trans SameX.upd, ⟨fun b o hb => ?_, IA.new, ?_, fun e he => ?_, ?_, ?_⟩⟩
              · rw [upd_ne (ne_of_none hb IA.new)]
                exact IA.same _ _ hb
              · rw [upd_same, List.map_append]
                rfl
              · rcases List.mem_append.mp he with h | h
                · obtain ⟨h1, h2, h3⟩ := IA.each e h
                  exact ⟨by rw [upd_ne (ne_obj h1 IA.at_ (fun z => by cases z))]; exact h1, by rw [upd_ne h3]; exact h2, h3⟩
                · rw [List.mem_singleton.mp h]
                  have hrA : HA r = some (.lst (natV (rowN (2 ^ tb.many) k))) := su _ _ (s9 _ _ hrow)
                  exact ⟨by rw [upd_ne ud]; exact ua, by rw [upd_ne (rd r rm)]; exact hrA, rd r rm⟩
              · rw [List.map_append, IA.list, entL_succ, if_pos hF, hst]
                rfl
              · rcases IA.first with h | ⟨row, r', h1, h2, h3, h4⟩
                · exact .inl h
                · exact .inr ⟨row, r', h1, h2, h3, by rw [upd_ne h3]; exact h4⟩
            · rw [decide_eq_false hF]
              refine iteF ?_
              rw [hst]
              refine ⟨es, rfl, s69, { I9 with list := ?_ }⟩
              rw [I9.list, entL_succ, if_neg hF, List.append_nil]
          rintro σ H8 ⟨es, rfl, s8, I⟩
          have dx8 : Dt H8 x tb.d := dx.to I.same
          obtain ⟨a1, b1, c1, ys, rfl, ha1, hb1, hyl, hrow1, hc1, _⟩ := dx8.tab
          have fs : ((List.range (k + 1)).find? fun z => tb.ends.getD (standN (2 ^ tb.many) tb.next z) false) = ((List.range k).find? fun z => tb.ends.getD (standN (2 ^ tb.many) tb.next z) false).or (if tb.ends.getD st false = true then some k else none) := by
            rw [List.range_succ, List.find?_append, List.find?_cons, hst]
            cases tb.ends.getD st false <;> rfl
          have next : ∀ fv', FA H8 d fv' (((List.range (k + 1)).find? fun z => tb.ends.getD (standN (2 ^ tb.many) tb.next z) false).map (rowN (2 ^ tb.many))) → DI HB tb d (offN (2 ^ tb.many) i + (j + 1)) (offN (2 ^ tb.many) i + (j + 1)) H8 es fv' := fun fv' h => by
            rw [show offN (2 ^ tb.many) i + (j + 1) = k + 1 by omega]
            exact { I with first := h }
          have hr8 := s8 _ _ (rd r rm) (R j r hr2)
          rw [hk] at hr8
          rcases I.first with ⟨h1, h2⟩ | ⟨row, r', h1, h2, h3, h4⟩
          · subst h2
            have ne : st < tb.ends.length := by rw [good.same]; exact sl
            have hn0 : ((List.range k).find? fun z => tb.ends.getD (standN (2 ^ tb.many) tb.next z) false) = none := by
              cases z : (List.range k).find? fun z => tb.ends.getD (standN (2 ^ tb.many) tb.next z) false with
              | none => rfl
              | some w => rw [z] at h1; cases h1
            refine ⟨_, rfl, rfl, _, rfl, iteT ?_⟩
            refine ⟨_, rfl, a1, _, 2, _, rfl, rfl, .inl (.inl ha1), rfl, _, rfl, c1, _, st, .bl (tb.ends.getD st false), rfl, rfl, .inl (.inl hc1), atI_nat ?_, _, rfl, ?_⟩
            · rw [List.getElem?_map, List.getElem?_eq_getElem ne, List.getD_eq_getElem?_getD, List.getElem?_eq_getElem ne]
              rfl
            cases hb : tb.ends.getD st false with
            | true =>
              refine iteT ⟨_, rfl, es, .ref r, _, _, rfl, s8, next _ (.inr ⟨_, r, ?_, rfl, rd r rm, hr8⟩)⟩
              rw [fs, hn0, hb]
              rfl
            | false =>
              refine iteF ⟨es, .non, _, _, rfl, s8, next _ (.inl ⟨?_, rfl⟩)⟩
              rw [fs, hn0, hb]
              rfl
          · subst h2
            refine ⟨_, rfl, rfl, _, rfl, iteF ?_⟩
            refine ⟨es, .ref r', _, _, rfl, s8, next _ (.inr ⟨row, r', ?_, rfl, h3, h4⟩)⟩
            rw [fs]
            cases z : (List.range k).find? fun z => tb.ends.getD (standN (2 ^ tb.many) tb.next z) false with
            | none => rw [z] at h1; cases h1
            | some w => rw [z] at h1; exact h1
        · rintro σ H7 ⟨es, fv, z7, z8, rfl, s7, I⟩
          refine ⟨es, fv, _, _, _, rfl, ?_⟩
          rw [List.length_map, lr, off1] at I
          exact I
      · rintro σ H5 ⟨es, fv, z6, z7, z8, rfl, I⟩
        exact ⟨es, fv, z6, z7, z8, rfl, I⟩
    rintro σ H5 ⟨es, fv, z6, z7, z8, rfl, I⟩
    have hfe : es.map En.p = firsts tb := by rw [I.list, firsts_ent good]
    have o100 : offN (2 ^ tb.many) tb.steps.length ≤ 100 := by rw [hmany]; exact off_small n hn _ (by omega)
    have first : FA H5 d fv (firstEnd tb) := by
      have h := I.first
      rw [find_ent (fun s => tb.ends.getD s false), ← firsts_ent good] at h
      exact h
    have dueN : Nice (.list (es.map fun e => pairD e.p)) := ent_list_nice good (by omega) o100 I.list
    have optN : Nice (optD (firstEnd tb)) := opt_nice good o100
    have dx5 := dx.to I.same
    have tabs5 : LamX.Tabs [(tt, Lq)] H5 := tabsB.ext fun b o h => I.same b o h
    have stay5 : SameX a H H5 := xB.trans (SameX.of I.same)
    have ddue := I.dt
    have dfirst := first.dt
    clear first I I0 tabsB xB dx hm g0 g1 x1
    have neq : ∀ z : V, (!decide (z = z)) = false := fun z => by simp
    have yeq : ∀ z : V, decide (z = z) = true := fun z => by simp
    refine ⟨_, rfl, x, tb, rfl, dx5, good, nice, by omega, fun c H6 ts s6 R e1 e2 e3 => ?_⟩
    have ee : (ts.map fun e => pairD e.p) = es.map fun e => pairD e.p := by rw [due_eq, due_eq, e1, hfe]
    have dtold := R.dt
    rw [ee] at dtold
    refine ⟨_, rfl, _, _, rfl, dtold, dueN.shows, _, rfl, _, _, rfl, ddue.to s6, dueN.shows, rfl, _, rfl, ?_⟩
    rw [neq]
    refine iteF ⟨_, rfl, x, tb, rfl, dx5.to s6, good, nice, by omega, fun v H7 s7 hv => ⟨_, _, rfl, taken_dt hv, optN.shows, _, rfl, _, _, rfl, dfirst.to (s6.trans s7), optN.shows, rfl, _, rfl, ?_⟩⟩
    rw [neq]
    refine iteF ⟨_, rfl, _, _, rfl, dx5.to (s6.trans s7), nice.shows, _, rfl, rfl, _, rfl, ?_⟩
    rw [neq]
    refine iteF ?_
    have R7 := R.same s7
    have s57 := s6.trans s7
    refine ⟨_, rfl, c, rfl, ⟨_, .inl (.inl R7.at_)⟩, ?_⟩
    refine for_list (K := K) (a := c) (xs := ts.map fun e => V.ref e.t) (fun i σ H' => ∃ z7 z8 : Option V, σ = [some (.ref a), some (.int (n : Int)), some (.int (tb.steps.length : Int)), some (.str tb.d.shown), some (.ref d), some fv, z6, z7, z8, some (.ref c), none, some x, none, none, none] ∧ Same H5 H' ∧ H' c = some (.lst (ts.map fun e => V.ref e.t)) ∧ (∀ e ∈ ts, H' e.t = some (.tup [.int (e.n : Int), .ref e.r])) ∧ ∀ e ∈ ts, ∃ xs, H' e.r = some (.lst xs) ∧ xs.length ≤ 100 + i)
      ⟨_, _, rfl, s57, R7.at_, fun e he => (R7.each e he).1, fun e he => ⟨_, (R7.each e he).2.1, by unfold natV; rw [List.length_map]; have := (e3 e he).2; omega⟩⟩ (fun i σ H' _ ⟨_, _, _, _, e, _⟩ => .inl (.inl e)) ?_ ?_
    · rintro i y σ H8 hi ⟨z7, z8, rfl, s8, c8, t8, r8⟩
      rw [List.getElem?_map] at hi
      obtain ⟨e, he, rfl⟩ := Option.map_eq_some_iff.mp hi
      have em := List.mem_of_getElem? he
      have il : i < ts.length := (List.getElem?_eq_some_iff.mp he).1
      obtain ⟨xs, hr8, lx⟩ := r8 e em
      obtain ⟨_, _, en, ec⟩ := R.each e em
      refine ⟨e.t, [.int (e.n : Int), .ref e.r], rfl, .inl (.inl (t8 e em)), rfl, _, _, rfl, _, _, rfl, rfl, ?_⟩
      refine ⟨_, rfl, .inl ⟨rfl, _, .inl (.inl hr8)⟩, e.r, xs, _, rfl, rfl, hr8, by rw [sizeLine_eq]; omega, _, _, rfl, fun b o hb => ?_, ?_, fun f hf => ?_, fun f hf => ?_⟩
      · rw [upd_ne (ne_of_none hb en)]
        exact s8 _ _ hb
      · rw [upd_ne ec.symm]
        exact c8
      · rw [upd_ne (ne_obj (t8 f hf) hr8 (fun z => by cases z))]
        exact t8 f hf
      · by_cases h : f.r = e.r
        · exact ⟨_, by rw [h, upd_same], by rw [List.length_append]; show xs.length + 1 ≤ _; omega⟩
        · obtain ⟨ws, h1, h2⟩ := r8 f hf
          exact ⟨ws, by rw [upd_ne h]; exact h1, by omega⟩
    rintro σ H8 ⟨z7, z8, rfl, s8, c8, t8, r8⟩
    refine ⟨_, rfl, .inl ⟨rfl, _, .inl (.inl c8)⟩, c, _, _, rfl, rfl, c8, by rw [List.length_map, sizeLine_eq]; omega, ?_⟩
    have s9 : Same H5 (upd H8 c (.lst ((ts.map fun e => V.ref e.t) ++ [.int 7]))) := fun b o hb => by
      rw [upd_ne (ne_of_none hb R.new)]
      exact s8 _ _ hb
    generalize (upd H8 c (.lst ((ts.map fun e => V.ref e.t) ++ [.int 7]))) = H9 at s9
    clear s8 c8 t8 r8 R7 s57 dtold
    refine ⟨_, rfl, x, tb, rfl, dx5.to s9, good, nice, by omega, fun v HA sA hv2 => ?_⟩
    refine ⟨fun σ H' => σ = [some (.ref a), some (.int (n : Int)), some (.int (tb.steps.length : Int)), some (.str tb.d.shown), some (.ref d), some fv, z6, z7, z8, some (.ref c), some v, some x, none, none, none] ∧ Same H5 H', ?_, ?_⟩
    · refine ⟨_, rfl, rfl, _, rfl, ?_⟩
      rcases hv2 with ⟨_, rfl⟩ | ⟨row, r, h1, rfl, hrn, hr, hl⟩
      · exact iteF ⟨rfl, s9.trans sA⟩
      · refine iteT ⟨_, rfl, .inl ⟨rfl, _, .inl (.inl hr)⟩, r, _, _, rfl, rfl, hr, by unfold natV; rw [List.length_map, sizeLine_eq]; omega, rfl, fun b o hb => ?_⟩
        rw [upd_ne (ne_of_none (s9 _ _ hb) hrn)]
        exact sA _ _ (s9 _ _ hb)
    rintro σ HC ⟨rfl, sC⟩
    have dxC := dx5.to sC
    have ddC := ddue.to sC
    have dfC := dfirst.to sC
    refine ⟨tabs5.ext (fun b o h => sC b o h), fun HD eD tabsD => ⟨tb, ask, fun H2 sH Qk hk => ⟨_, rfl, x, tb, rfl, (dt_ext dxC eD).to sH, good, nice, by omega, hk⟩, fun HE sE => ⟨_, rfl, iteF ?_⟩⟩⟩
    have dxE := (dt_ext dxC eD).to sE
    have ddE := (dt_ext ddC eD).to sE
    have dfE := (dt_ext dfC eD).to sE
    refine ⟨_, rfl, _, _, rfl, dxE, nice.shows, _, rfl, rfl, _, rfl, ?_⟩
    rw [neq]
    refine iteF ?_
    refine ⟨_, rfl, x, tb, rfl, dxE, good, nice, by omega, fun c2 HF us sF R2 f1 f2 f3 => ?_⟩
    have ee2 : (us.map fun e => pairD e.p) = es.map fun e => pairD e.p := by rw [due_eq, due_eq, f1, hfe]
    have dtold2 := R2.dt
    rw [ee2] at dtold2
    refine ⟨_, _, rfl, dtold2, dueN.shows, _, rfl, _, _, rfl, ddE.to sF, dueN.shows, rfl, _, rfl, ?_⟩
    rw [yeq]
    refine iteT ⟨_, rfl, x, tb, rfl, dxE.to sF, good, nice, by omega, fun v3 HG sG hv3 => ⟨_, _, rfl, taken_dt hv3, optN.shows, _, rfl, _, _, rfl, dfE.to (sF.trans sG), optN.shows, rfl, _, rfl, ?_⟩⟩
    rw [yeq]
    refine iteT ⟨_, rfl, _, _, rfl, dxE.to (sF.trans sG), nice.shows, _, rfl, rfl, ?_⟩
    rw [yeq]
    have sEG := sE.trans (sF.trans sG)
    exact q HG (fun b o nb hb nt => sEG _ _ (eD _ _ (sC _ _ (stay5 b o nb hb)) nt)) (tabsD.ext fun b o h => sEG b o h)
end

end K14

set_option Elab.async false
set_option linter.all false
set_option maxRecDepth 100000
set_option maxHeartbeats 4000000
namespace K14
open PySem PySem.Spec PyProof.Rows L2 Hw

def tbLine : Tb := ⟨1, (List.range 200).map fun i => [i, min (i + 1) 199], (List.range 200).map fun i : Nat => decide (V.int (i : Int) = V.int 199)⟩
def tbLess : Tb := ⟨2, [[0, 0, 1, 0], [1, 0, 1, 1]], [false, true]⟩
def tbOne : Tb := ⟨1, [[0, 0]], [false]⟩
def tbNil : Tb := ⟨0, [[0]], [true]⟩
theorem less_rows : firsts tbLess = [(0, []), (1, [2])] := by decide +kernel
theorem less_end : firstEnd tbLess = some [2] := by decide +kernel
theorem one_end : firstEnd tbOne = none := by decide +kernel
theorem nil_end : firstEnd tbNil = some [] := by decide +kernel
theorem line_rows : firsts tbLine = (List.range 200).map fun i => (i, List.replicate i 1) := by
  show bfsL 2 tbLine.next 200 0 [(0, [])] = _
  decide +kernel
theorem line_end : firstEnd tbLine = some (List.replicate 199 1) := by
  unfold firstEnd
  rw [line_rows]
  decide +kernel
theorem line_at : ((List.range 200).map fun i => (i, List.replicate i 1))[150]? = some (150, List.replicate 150 1) := by decide +kernel
theorem good_by {t : Tb} (h : (decide (t.many ≤ 6) && decide (0 < t.steps.length) && decide (t.ends.length = t.steps.length) && t.steps.all fun l => decide (l.length = 2 ^ t.many) && l.all fun x => decide (x < t.steps.length)) = true) : t.Good := by
  simp only [Bool.and_eq_true, decide_eq_true_eq, List.all_eq_true] at h
  obtain ⟨⟨⟨h1, h2⟩, h3⟩, h4⟩ := h
  exact ⟨h1, h2, h3, fun l hl => (h4 l hl).1, fun l hl x hx => (h4 l hl).2 x hx⟩
theorem g_line : tbLine.Good := good_by (by decide +kernel)
theorem g_less : tbLess.Good := good_by (by decide +kernel)
theorem g_one : tbOne.Good := good_by (by decide +kernel)
theorem g_nil : tbNil.Good := good_by (by decide +kernel)
theorem flat_one (n : Nat) : (List.replicate n [V.int 1]).flatten = natV (List.replicate n 1) := by
  induction n with
  | zero => rfl
  | succ n ih => rw [List.replicate_succ, List.replicate_succ, List.flatten_cons, ih]; rfl
theorem rep_nice (n : Nat) (h : n ≤ 1000) : Nice (.list (natD (List.replicate n 1))) := (bnd_nats (n := 1000) (fun x hx => by rw [List.eq_of_mem_replicate hx]; decide) (by rw [List.length_replicate]; exact h)).nice (by decide) (by decide)
theorem dt_lst {H : Hp} {p : Addr} {vs : List V} {ds : List PyData} (hp : H p = none) (h : DtAll H vs ds) : Dt (upd H p (.lst vs)) (.ref p) (.list ds) := .lst upd_same (h.to (same_new' hp))
theorem dt_tup {H : Hp} {p : Addr} {vs : List V} {ds : List PyData} (hp : H p = none) (h : DtAll H vs ds) : Dt (upd H p (.tup vs)) (.ref p) (.tuple ds) := .tup upd_same (h.to (same_new' hp))
theorem sq_nt {K : PySem.W.Frag} {H : Hp} {a : Addr} {xs : List V} (h : SqL K H a xs) : SqL K (nt H) a xs := by
  rcases h with (h | ⟨o, h⟩) | h
  · exact .inl (.inl (nt_of h fun ps z => by cases z))
  · exact .inl (.inr ⟨o, nt_of h fun ps z => by cases z⟩)
  · exact .inr h
section
variable {P : Program} {w : World} {K : PySem.W.Frag} {mg : Str → Option Value} {base : Heap}
def spLaw (K : PySem.W.Frag) (tt : Addr) : Sp := fun vs H Q _ => ∃ (a : Addr) (ns : List Int), vs = [.ref a] ∧ ns.length ≤ 63 ∧ SqL K H a (ns.map V.int) ∧ H tt = some (.tbl #[]) ∧ ∀ H' : Hp, Q (.bl true) H'
theorem ok_law {c tt : Addr} (T : Tx K mg) (hcode : T.d_law_right.code = .ref c) (TB : LamX.TabB base mg c tt) : FnG P w K mg base CX0 10 T.a_law T.d_law ["_law_script"] (spLaw K tt) := by
  have G_law_generator := ok_law_generator (P := P) (w := w) (base := base) T
  have G_law_right := ok_law_right (P := P) (w := w) (base := base) T hcode TB
  have G_reached := ok_reached2 (P := P) (w := w) (base := base) T
  have G_first_taken := ok_taken2 (P := P) (w := w) (base := base) T
  refine bodyG0 T.F_law sc_law (fun vs H Q E h => ?_) (fun cdv A outer s H vs Q E gd hr h => ?_)
  · obtain ⟨a, ns, rfl, _⟩ := h; rfl
  · obtain ⟨a, ns, rfl, hl, hS, hT, q⟩ := h
    refine ⟨_, (pss_cons (ps_for PassesOwn.never rfl (pi_range1 (by rfl) T.z_range (pa_cons pe_int pa_nil)) (pg_name (i := 1) sc_law.nd rfl (Or.inl rfl)) (pss_one (ps_if (pt_not (pt_val (pe_g G_law_right gd (hr.mono (by decide)) (by rfl) T.g_law_right T.F_law_right.kp T.b_law_right .nil pass0 (pa_cons (pe_g G_law_generator gd (hr.mono (by decide)) (by rfl) T.g_law_generator T.F_law_generator.kp T.b_law_generator .nil pass0 (pa_cons (pv 0) (pa_cons (pv 1) pa_nil))) pa_nil)))) (pss_one (ps_ret pe_bl)) pss_nil)))
      (pss_cons (ps_set (i := 2) sc_law.nd rfl (Or.inl rfl) (pe_tup (pa_cons pe_int (pa_cons (pe_lc (own := [("_law_at", 4)]) (g := gName 4) (tt := tYes) rfl sc_law.nd (pi_range1 (by rfl) T.z_range (pa_cons pe_int pa_nil)) (blkOk_by (N := ["_law_script", "_law_index", "_law_line", "_law_less", "_law_at"]) (sc := defScope s_law) (by decide +kernel)) (fun _ _ _ _ _ => (pg_name (i := 4) sc_law.nd rfl (Or.inl rfl))) (fun _ _ _ _ _ => pts_nil) (fun _ _ _ _ _ => (pe_lst (pa_cons (pv 4) (pa_cons (pe_callB (call_min2 rfl) (by rfl) T.z_min (by decide +kernel) (pa_cons (pe_op op_add (pv 4) pe_int) (pa_cons pe_int pa_nil))) pa_nil))))) (pa_cons (pe_lc (own := [("_law_at", 4)]) (g := gName 4) (tt := tYes) rfl sc_law.nd (pi_range1 (by rfl) T.z_range (pa_cons pe_int pa_nil)) (blkOk_by (N := ["_law_script", "_law_index", "_law_line", "_law_less", "_law_at"]) (sc := defScope s_law) (by decide +kernel)) (fun _ _ _ _ _ => (pg_name (i := 4) sc_law.nd rfl (Or.inl rfl))) (fun _ _ _ _ _ => pts_nil) (fun _ _ _ _ _ => (pe_cmpR op_eq (pv 4) pe_int (nomark _)))) pa_nil)))))
      (pss_cons (ps_set (i := 3) sc_law.nd rfl (Or.inl rfl) (pe_tup (pa_cons pe_int (pa_cons (pe_lst (pa_cons (pe_lst (pa_cons pe_int (pa_cons pe_int (pa_cons pe_int (pa_cons pe_int pa_nil))))) (pa_cons (pe_lst (pa_cons pe_int (pa_cons pe_int (pa_cons pe_int (pa_cons pe_int pa_nil))))) pa_nil))) (pa_cons (pe_lst (pa_cons pe_bl (pa_cons pe_bl pa_nil))) pa_nil)))))
      (pss_cons (ps_if (PW.pt (pw_or (pt_cmpR (op_neT hr.units) (pe_g G_first_taken gd (hr.mono (by decide)) (by rfl) T.g_first_taken T.F_first_taken.kp T.b_first_taken .nil pass0 (pa_cons (pv 2) pa_nil)) (pe_op op_rep (pe_lst (pa_cons pe_int pa_nil)) pe_int) (nomark _)) (pw_or1 (pt_cmpR (op_neT hr.units) (pe_ix (ix_listK (K := K) rfl) (pe_g G_reached gd (hr.mono (by decide)) (by rfl) T.g_reached T.F_reached.kp T.b_reached .nil pass0 (pa_cons (pv 2) pa_nil)) pe_int (fun _ _ => rfl)) (pe_tup (pa_cons pe_int (pa_cons (pe_op op_rep (pe_lst (pa_cons pe_int pa_nil)) pe_int) pa_nil))) (nomark _))))) (pss_one (ps_ret pe_bl)) pss_nil)
      (pss_one (ps_ret (pe_cmpR (op_eqT hr.units) (pe_lst (pa_cons (pe_g G_reached gd (hr.mono (by decide)) (by rfl) T.g_reached T.F_reached.kp T.b_reached .nil pass0 (pa_cons (pv 3) pa_nil)) (pa_cons (pe_g G_first_taken gd (hr.mono (by decide)) (by rfl) T.g_first_taken T.F_first_taken.kp T.b_first_taken .nil pass0 (pa_cons (pv 3) pa_nil)) (pa_cons (pe_g G_first_taken gd (hr.mono (by decide)) (by rfl) T.g_first_taken T.F_first_taken.kp T.b_first_taken .nil pass0 (pa_cons (pe_tup (pa_cons pe_int (pa_cons (pe_lst (pa_cons (pe_lst (pa_cons pe_int (pa_cons pe_int pa_nil))) pa_nil)) (pa_cons (pe_lst (pa_cons pe_bl pa_nil)) pa_nil)))) pa_nil)) (pa_cons (pe_g G_first_taken gd (hr.mono (by decide)) (by rfl) T.g_first_taken T.F_first_taken.kp T.b_first_taken .nil pass0 (pa_cons (pe_tup (pa_cons pe_int (pa_cons (pe_lst (pa_cons (pe_lst (pa_cons pe_int pa_nil)) pa_nil)) (pa_cons (pe_lst (pa_cons pe_bl pa_nil)) pa_nil)))) pa_nil)) pa_nil))))) (pe_lst (pa_cons (pe_lst (pa_cons (pe_tup (pa_cons pe_int (pa_cons (pe_lst pa_nil) pa_nil))) (pa_cons (pe_tup (pa_cons pe_int (pa_cons (pe_lst (pa_cons pe_int pa_nil)) pa_nil))) pa_nil))) (pa_cons (pe_lst (pa_cons pe_int pa_nil)) (pa_cons pe_non (pa_cons (pe_lst pa_nil) pa_nil))))) (nomark _)))))))), ?_⟩
    have le1 : ∀ {n : Nat}, n ≤ 10000 → n ≤ sizeLine := fun h => by rw [sizeLine_eq]; omega
    have tabs0 : LamX.Tabs [(tt, Lq)] H := fun p hp => by
      rw [List.mem_singleton.mp hp]
      exact LamX.TabS.nil hT
    refine ⟨3, rfl, by decide, by decide, ?_⟩
    refine for_range (lo := 0) (n := 3) (fun i σ H' => ∃ z1 : Option V, σ = [some (.ref a), z1, none, none, none] ∧ SqL K H' a (ns.map V.int) ∧ LamX.Tabs [(tt, Lq)] H') ⟨_, rfl, hS, tabs0⟩ ?_ ?_
    · rintro i σ H1 hi ⟨z1, rfl, hS, tabs⟩
      refine ⟨_, rfl, _, rfl, a, ns, i, by rw [Int.zero_add]; rfl, by omega, hS, fun g H2 s t c s2 hg e2 ok => ?_⟩
      refine ⟨g, t, 1000 * (i : Int), rfl, ⟨s, c, e2, ok⟩, by omega, tabs.ext fun b o hb => off_of (ne_of_none hb hg) (s2 _ _ hb), fun H3 st tabs3 => ⟨true, rfl, iteF ⟨_, rfl, ?_, tabs3⟩⟩⟩
      have s13 : Same (nt H1) H3 := fun b o hb => by
        have hb' : H1 b = some o ∧ ∀ ps, o ≠ .tbl ps := by
          unfold nt at hb
          split at hb
          · cases hb
          · rename_i o' hn
            exact ⟨hb, fun ps z => hn ps (by rw [hb, z])⟩
        exact st b o (ne_of_none hb'.1 hg) (s2 _ _ hb'.1) hb'.2
      exact s13.seq (sq_nt hS)
    rintro σ H1 ⟨z1, rfl, _, _⟩
    clear tabs0 hS hT hl
    -- the long line
    refine ⟨200, rfl, by decide, by decide, fun D hD => ?_⟩
    refine lc_range (lo := 0) (n := 200) (fun i H' => Same H1 H' ∧ ∃ vs, H' D = some (.lst vs) ∧ DtAll (off D H') vs (((List.range i).map fun i => [i, min (i + 1) 199]).map fun l => PyData.list (natD l)) ∧ vs.length = i) ⟨same_new' hD, [], upd_same, .nil, rfl⟩ ?_ ?_
    · rintro i H2 hi ⟨s2, vs, e2, dv, lv⟩
      refine ⟨rfl, yes_if ?_⟩
      refine ⟨_, rfl, _, rfl, _, _, rfl, rfl, _, _, rfl, le1 (by show 2 ≤ 10000; decide), fun D2 hD2 => ?_⟩
      have nDD : D ≠ D2 := ne_of_none e2 hD2
      have sD := same_new' (o := .lst [.int (0 + (i : Int)), .int (if (199 : Int) < 0 + (i : Int) + 1 then 199 else 0 + (i : Int) + 1)]) hD2
      have kp : ∀ vs', Same (off D H2) (off D (upd (upd H2 D2 (.lst [.int (0 + (i : Int)), .int (if (199 : Int) < 0 + (i : Int) + 1 then 199 else 0 + (i : Int) + 1)])) D (.lst vs'))) := fun vs' b o hb => by
        obtain ⟨n1, hb⟩ := off_at hb
        exact off_of n1 (by rw [upd_ne n1]; exact sD _ _ hb)
      refine ⟨vs, sD _ _ e2, by rw [lv, sizeLine_eq]; omega, fun b o hb => ?_, vs ++ [.ref D2], upd_same, ?_, by rw [List.length_append, lv]; rfl⟩
      · rw [upd_ne (ne_of_none hb hD)]
        exact sD _ _ (s2 _ _ hb)
      · rw [List.range_succ, List.map_append, List.map_append]
        refine (dv.to (kp _)).app (.one ?_)
        refine Dt.nats (l := [i, min (i + 1) 199]) (off_of nDD.symm ?_)
        rw [upd_ne nDD.symm, upd_same]
        show _ = some (HO.lst [V.int (i : Int), V.int ((min (i + 1) 199 : Nat) : Int)])
        rw [Int.zero_add, show (if (199 : Int) < (i : Int) + 1 then (199 : Int) else (i : Int) + 1) = ((min (i + 1) 199 : Nat) : Int) by split <;> omega]
    rintro H2 ⟨s2, vs, e2, dv, lv⟩
    refine ⟨200, rfl, by decide, by decide, fun D3 hD3 => ?_⟩
    refine lc_range (lo := 0) (n := 200) (fun i H' => Same H2 H' ∧ H' D3 = some (.lst ((List.range i).map fun i : Nat => V.bl (decide (V.int (i : Int) = V.int 199))))) ⟨same_new' hD3, upd_same⟩ ?_ ?_
    · rintro i H3 hi ⟨s3, e3⟩
      refine ⟨rfl, yes_if ?_⟩
      refine ⟨_, rfl, rfl, ?_⟩
      rw [Int.zero_add]
      exact lcS (f := fun i : Nat => V.bl (decide (V.int (i : Int) = V.int 199))) hD3 s3 e3 (by omega)
    rintro H3 ⟨s3, e3⟩
    refine ⟨le1 (by show 3 ≤ 10000; decide), fun p hp => ?_⟩
    have sp := same_new' (o := .tup [.int 1, .ref D, .ref D3]) hp
    have dL : Dt (upd H3 p (.tup [.int 1, .ref D, .ref D3])) (.ref p) tbLine.d := by
      refine .tup upd_same (.cons (.int _) (.cons (.lst (sp _ _ (s3 _ _ e2)) ((dv.to off_same).to (s3.trans sp))) (.cons (.lst (xs := ((List.range 200).map fun i : Nat => decide (V.int (i : Int) = V.int 199)).map V.bl) (sp _ _ ?_) (DtAll.bls _)) .nil)))
      rw [e3, List.map_map]
      rfl
    generalize (upd H3 p (.tup [.int 1, .ref D, .ref D3])) = H4 at dL
    clear sp e3 s3 dv e2 s2
    -- the small one
    refine ⟨le1 (by show 4 ≤ 10000; decide), fun y1 hy1 => ⟨le1 (by show 4 ≤ 10000; decide), fun y2 hy2 => ⟨le1 (by show 2 ≤ 10000; decide), fun y3 hy3 => ⟨le1 (by show 2 ≤ 10000; decide), fun y4 hy4 => ⟨le1 (by show 3 ≤ 10000; decide), fun y5 hy5 => ?_⟩⟩⟩⟩⟩
    have d1 := dt_lst hy1 (DtAll.ints [0, 0, 1, 0])
    have d2 := dt_lst hy2 (DtAll.ints [1, 0, 1, 1])
    have d3 := dt_lst hy3 (.cons (d1.to (same_new' hy2)) (.cons d2 .nil))
    have d4 := dt_lst hy4 (DtAll.bls [false, true])
    have dS := dt_tup hy5 (.cons (.int 2) (.cons (d3.to (same_new' hy4)) (.cons d4 .nil)))
    have dL := dL.to ((same_new' hy1).trans ((same_new' hy2).trans ((same_new' hy3).trans ((same_new' hy4).trans (same_new' (o := .tup [.int 2, .ref y3, .ref y4]) hy5)))))
    clear d1 d2 d3 d4
    have dS : Dt _ (.ref y5) tbLess.d := dS
    revert dS dL
    generalize (upd _ y5 (.tup [.int 2, .ref y3, .ref y4])) = H5
    intro dL dS
    have nL : Nice tbLine.d := tb_nice g_line (by decide +kernel)
    have lL : tbLine.steps.length ≤ 1000 := by decide +kernel
    have nS : Nice tbLess.d := tb_nice g_less (by decide)
    refine ⟨_, rfl, .ref p, tbLine, rfl, dL, g_line, nL, lL, fun v H6 s6 hv => ⟨le1 (by show 1 ≤ 10000; decide), fun y6 hy6 => ⟨y6, 199, _, rfl, rfl, upd_same, by decide, by decide, le1 (by show 1 * 199 ≤ 10000; decide), fun r6 hr6 => ?_⟩⟩⟩
    have dv := taken_dt hv
    rw [line_end] at dv
    have dv : Dt H6 v (.list (natD (List.replicate 199 1))) := dv
    have sy6 := same_new' (o := .lst [.int 1]) hy6
    have sr6 := same_new' (o := .lst (List.replicate (199 : Int).toNat [V.int 1]).flatten) hr6
    have dr : Dt (upd (upd H6 y6 (.lst [.int 1])) r6 (.lst (List.replicate (199 : Int).toNat [V.int 1]).flatten)) (.ref r6) (.list (natD (List.replicate 199 1))) := Dt.nats (by rw [upd_same]; exact congrArg (fun z => some (HO.lst z)) (flat_one 199))
    have n199 := rep_nice 199 (by decide)
    refine ⟨_, _, dv.to (sy6.trans sr6), dr, n199.shaped, n199.shaped, _, rfl, ?_⟩
    rw [n199.refl]
    have dL := dL.to (s6.trans (sy6.trans sr6))
    have dS := dS.to (s6.trans (sy6.trans sr6))
    clear dr dv sr6 sy6
    revert dL dS
    generalize (upd _ r6 (.lst (List.replicate (199 : Int).toNat [V.int 1]).flatten)) = H7
    intro dL dS
    refine iteF ⟨_, rfl, .ref p, tbLine, rfl, dL, g_line, nL, lL, fun c8 H8 ts s8 R e1 e2 e3 => ?_⟩
    obtain ⟨e, he, hp8⟩ : ∃ e, ts[150]? = some e ∧ e.p = (150, List.replicate 150 1) := by
      have h : (ts.map En.p)[150]? = some (150, List.replicate 150 1) := by rw [e1, line_rows]; exact line_at
      rw [List.getElem?_map] at h
      exact Option.map_eq_some_iff.mp h
    have em := List.mem_of_getElem? he
    obtain ⟨et, er, _, _⟩ := R.each e em
    have de : Dt H8 (.ref e.t) (pairD e.p) := .tup et (.cons (.int _) (.cons (Dt.nats er) .nil))
    rw [hp8] at de
    refine ⟨c8, _, 150, .ref e.t, rfl, rfl, .inl (.inl R.at_), atI_nat (j := 150) (by rw [List.getElem?_map, he]; rfl), le1 (by show 1 ≤ 10000; decide), fun y7 hy7 => ⟨y7, 150, _, rfl, rfl, upd_same, by decide, by decide, le1 (by show 1 * 150 ≤ 10000; decide), fun r7 hr7 => ⟨le1 (by show 2 ≤ 10000; decide), fun p7 hp7 => ?_⟩⟩⟩
    have sy7 := same_new' (o := .lst [.int 1]) hy7
    have sr7 := same_new' (o := .lst (List.replicate (150 : Int).toNat [V.int 1]).flatten) hr7
    have dr7 : Dt (upd (upd H8 y7 (.lst [.int 1])) r7 (.lst (List.replicate (150 : Int).toNat [V.int 1]).flatten)) (.ref r7) (.list (natD (List.replicate 150 1))) := Dt.nats (by rw [upd_same]; exact congrArg (fun z => some (HO.lst z)) (flat_one 150))
    have sp7 := same_new' (o := .tup [.int 150, .ref r7]) hp7
    have dp7 : Dt _ (.ref p7) (pairD (150, List.replicate 150 1)) := dt_tup hp7 (.cons (.int 150) (.cons dr7 .nil))
    have s711 := s8.trans (sy7.trans (sr7.trans sp7))
    have n150 : Nice (pairD (150, List.replicate 150 1)) := (bnd_pair (p := (150, List.replicate 150 1)) (n := 150) (by decide) (fun x hx => by rw [List.eq_of_mem_replicate hx]; decide) (by show (List.replicate 150 1).length ≤ 150; rw [List.length_replicate]; exact Nat.le_refl _)).nice (by decide) (by decide)
    refine ⟨_, _, de.to (sy7.trans (sr7.trans sp7)), dp7, n150.shaped, n150.shaped, _, rfl, ?_⟩
    rw [n150.refl]
    have dS := dS.to s711
    clear dp7 dr7 sp7 sr7 sy7 s711 de et er dL
    revert dS
    generalize (upd _ p7 (.tup [.int 150, .ref r7])) = H9
    intro dS
    refine iteF ⟨_, rfl, .ref y5, tbLess, rfl, dS, g_less, nS, by decide, fun c1 HA us sA RA f1 f2 f3 => ⟨_, rfl, .ref y5, tbLess, rfl, dS.to sA, g_less, nS, by decide, fun v2 HB sB hv2 => ?_⟩⟩
    have k1 : Dt HB (.ref c1) (.list [.tuple [.int 0, .list []], .tuple [.int 1, .list [.int 2]]]) := by
      have h := RA.dt
      rw [due_eq, f1, less_rows] at h
      exact h.to sB
    have k2 : Dt HB v2 (.list [.int 2]) := by
      have h := taken_dt hv2
      rw [less_end] at h
      exact h
    refine ⟨le1 (by show 2 ≤ 10000; decide), fun z1 h1 => ⟨le1 (by show 1 ≤ 10000; decide), fun z2 h2 => ⟨le1 (by show 1 ≤ 10000; decide), fun z3 h3 => ⟨le1 (by show 3 ≤ 10000; decide), fun z4 h4 => ?_⟩⟩⟩⟩
    have d1 := dt_lst h1 (DtAll.ints [0, 0])
    have d2 := dt_lst h2 (.cons d1 .nil)
    have d3 := dt_lst h3 (DtAll.bls [false])
    have dO : Dt _ (.ref z4) tbOne.d := dt_tup h4 (.cons (.int 1) (.cons (d2.to (same_new' h3)) (.cons d3 .nil)))
    have sz := (same_new' (o := .lst [V.int 0, .int 0]) h1).trans ((same_new' (o := .lst [V.ref z1]) h2).trans ((same_new' (o := .lst [V.bl false]) h3).trans (same_new' (o := .tup [.int 1, .ref z2, .ref z3]) h4)))
    have k1 := k1.to sz
    have k2 := k2.to sz
    clear d1 d2 d3 sz
    revert dO k1 k2
    generalize (upd _ z4 (.tup [.int 1, .ref z2, .ref z3])) = HC
    intro dO k1 k2
    refine ⟨.ref z4, tbOne, rfl, dO, g_one, tb_nice g_one (by decide), by decide, fun v3 HD sD hv3 => ?_⟩
    have k3 : Dt HD v3 .none := by
      have h := taken_dt hv3
      rw [one_end] at h
      exact h
    have k1 := k1.to sD
    have k2 := k2.to sD
    refine ⟨le1 (by show 1 ≤ 10000; decide), fun w1 h1 => ⟨le1 (by show 1 ≤ 10000; decide), fun w2 h2 => ⟨le1 (by show 1 ≤ 10000; decide), fun w3 h3 => ⟨le1 (by show 3 ≤ 10000; decide), fun w4 h4 => ?_⟩⟩⟩⟩
    have d1 := dt_lst h1 (DtAll.ints [0])
    have d2 := dt_lst h2 (.cons d1 .nil)
    have d3 := dt_lst h3 (DtAll.bls [true])
    have dO : Dt _ (.ref w4) tbNil.d := dt_tup h4 (.cons (.int 0) (.cons (d2.to (same_new' h3)) (.cons d3 .nil)))
    have sz := (same_new' (o := .lst [V.int 0]) h1).trans ((same_new' (o := .lst [V.ref w1]) h2).trans ((same_new' (o := .lst [V.bl true]) h3).trans (same_new' (o := .tup [.int 0, .ref w2, .ref w3]) h4)))
    have k1 := k1.to sz
    have k2 := k2.to sz
    have k3 := k3.to sz
    clear d1 d2 d3 sz
    revert dO k1 k2 k3
    generalize (upd _ w4 (.tup [.int 0, .ref w2, .ref w3])) = HE
    intro dO k1 k2 k3
    refine ⟨.ref w4, tbNil, rfl, dO, g_nil, tb_nice g_nil (by decide), by decide, fun v4 HF sF hv4 => ⟨le1 (by show 4 ≤ 10000; decide), fun L hL => ?_⟩⟩
    have k4 : Dt HF v4 (.list []) := by
      have h := taken_dt hv4
      rw [nil_end] at h
      exact h
    have kL := dt_lst hL (.cons (k1.to sF) (.cons (k2.to sF) (.cons (k3.to sF) (.cons k4 .nil))))
    clear k1 k2 k3 k4
    revert kL
    generalize (upd HF L (.lst [.ref c1, v2, v3, v4])) = HG
    intro kL
    refine ⟨Nat.zero_le _, fun a1 h1 => ⟨le1 (by show 2 ≤ 10000; decide), fun a2 h2 => ⟨le1 (by show 1 ≤ 10000; decide), fun a3 h3 => ⟨le1 (by show 2 ≤ 10000; decide), fun a4 h4 => ⟨le1 (by show 2 ≤ 10000; decide), fun a5 h5 => ⟨le1 (by show 1 ≤ 10000; decide), fun a6 h6 => ⟨Nat.zero_le _, fun a7 h7 => ⟨le1 (by show 4 ≤ 10000; decide), fun a8 h8 => ?_⟩⟩⟩⟩⟩⟩⟩⟩
    have s1 := same_new' (o := .lst []) h1
    have s2 := same_new' (o := .tup [V.int 0, .ref a1]) h2
    have s3 := same_new' (o := .lst [V.int 2]) h3
    have s4 := same_new' (o := .tup [V.int 1, .ref a3]) h4
    have s5 := same_new' (o := .lst [V.ref a2, .ref a4]) h5
    have s6 := same_new' (o := .lst [V.int 2]) h6
    have s7 := same_new' (o := .lst []) h7
    have s8 := same_new' (o := .lst [V.ref a5, .ref a6, .non, .ref a7]) h8
    have d2 := dt_tup h2 (.cons (.int 0) (.cons (dt_lst h1 .nil) .nil))
    have d4 := dt_tup h4 (.cons (.int 1) (.cons (dt_lst h3 (DtAll.ints [2])) .nil))
    have d5 := dt_lst h5 (.cons (d2.to (s3.trans s4)) (.cons d4 .nil))
    have d6 := dt_lst h6 (DtAll.ints [2])
    have d8 := dt_lst h8 (.cons (d5.to (s6.trans s7)) (.cons (d6.to s7) (.cons .non (.cons (dt_lst h7 .nil) .nil))))
    refine ⟨_, _, kL.to (s1.trans (s2.trans (s3.trans (s4.trans (s5.trans (s6.trans (s7.trans s8))))))), d8, by decide +kernel, by decide +kernel, ?_⟩
    generalize hE : PyData.eqv _ _ = b
    have hb : b = true := by rw [← hE]; decide +kernel
    subst hb
    exact q _
end

end K14

set_option Elab.async false
set_option linter.all false
set_option maxRecDepth 100000
set_option maxHeartbeats 4000000
/-! ### the end -/
namespace K14E
open PySem PySem.Spec PyProof.Rows L2 Hw K14
def d_is_whole : He.DefD := ⟨("is_whole", none), "is_whole", "is_whole", defArgs s_is_whole, defBody s_is_whole, defScope s_is_whole, [], []⟩
def d_is_count_to : He.DefD := ⟨("is_count_to", none), "is_count_to", "is_count_to", defArgs s_is_count_to, defBody s_is_count_to, defScope s_is_count_to, [], []⟩
def d_is_table_form : He.DefD := ⟨("is_table_form", none), "is_table_form", "is_table_form", defArgs s_is_table_form, defBody s_is_table_form, defScope s_is_table_form, [], []⟩
def d_is_step : He.DefD := ⟨("is_step", none), "is_step", "is_step", defArgs s_is_step, defBody s_is_step, defScope s_is_step, [], []⟩
def d_first_rows : He.DefD := ⟨("first_rows", none), "first_rows", "first_rows", defArgs s_first_rows, defBody s_first_rows, defScope s_first_rows, [], []⟩
def d_check_table : He.DefD := ⟨("check_table", none), "check_table", "check_table", defArgs s_check_table, defBody s_check_table, defScope s_check_table, [], []⟩
def d_table_ends : He.DefD := ⟨("table_ends", none), "table_ends", "table_ends", defArgs s_table_ends, defBody s_table_ends, defScope s_table_ends, [], []⟩
def d_reached : He.DefD := ⟨("reached", none), "reached", "reached", defArgs s_reached, defBody s_reached, defScope s_reached, [], []⟩
def d_first_taken : He.DefD := ⟨("first_taken", none), "first_taken", "first_taken", defArgs s_first_taken, defBody s_first_taken, defScope s_first_taken, [], []⟩
def d_law_hash : He.DefD := ⟨("_law_hash", none), "_law_hash", "_law_hash", defArgs s_law_hash, defBody s_law_hash, defScope s_law_hash, [], []⟩
def d_law_random : He.DefD := ⟨("_law_random", none), "_law_random", "_law_random", defArgs s_law_random, defBody s_law_random, defScope s_law_random, [], []⟩
def d_law_cell : He.DefD := ⟨("_law_cell", none), "_law_cell", "_law_cell", defArgs s_law_cell, defBody s_law_cell, defScope s_law_cell, [], []⟩
def d_law_generator : He.DefD := ⟨("_law_generator", none), "_law_generator", "_law_generator", defArgs s_law_generator, defBody s_law_generator, defScope s_law_generator, [], []⟩
def d_law_two : He.DefD := ⟨("_law_two", none), "_law_two", "_law_two", defArgs s_law_two, defBody s_law_two, defScope s_law_two, [], []⟩
def d_law_table : He.DefD := ⟨("_law_table", none), "_law_table", "_law_table", defArgs s_law_table, defBody s_law_table, defScope s_law_table, [], []⟩
def d_law_rows : He.DefD := ⟨("_law_rows", none), "_law_rows", "_law_rows", defArgs s_law_rows, defBody s_law_rows, defScope s_law_rows, [], []⟩
def d_law_behind : He.DefD := ⟨("_law_behind", none), "_law_behind", "_law_behind", defArgs s_law_behind, defBody s_law_behind, defScope s_law_behind, [], []⟩
def d_law_marked : He.DefD := ⟨("_law_marked", none), "_law_marked", "_law_marked", defArgs s_law_marked, defBody s_law_marked, defScope s_law_marked, [], []⟩
def d_law_fresh : He.DefD := ⟨("_law_fresh", none), "_law_fresh", "_law_fresh", defArgs s_law_fresh, defBody s_law_fresh, defScope s_law_fresh, [], []⟩
def d_law_right : He.DefD := ⟨("_law_right", none), "_law_right", "_law_right", defArgs s_law_right, defBody s_law_right, defScope s_law_right, [], []⟩
def d_law : He.DefD := ⟨("law", none), "law", "law", defArgs s_law, defBody s_law, defScope s_law, [], []⟩
def fn : List He.DefD := [d_is_whole, d_is_count_to, d_is_table_form, d_is_step, d_first_rows, d_check_table, d_table_ends, d_reached, d_first_taken, d_law_hash, d_law_random, d_law_cell, d_law_generator, d_law_two, d_law_table, d_law_rows, d_law_behind, d_law_marked, d_law_fresh, d_law_right, d_law]
def fa : List He.Fa := [.glo "is_whole", .glo "is_count_to", .glo "is_table_form", .glo "is_step", .glo "first_rows", .glo "check_table", .glo "table_ends", .glo "reached", .glo "first_taken", .glo "_law_hash", .glo "_law_random", .glo "_law_cell", .glo "_law_generator", .glo "_law_two", .glo "_law_table", .glo "_law_rows", .glo "_law_behind", .glo "_law_marked", .glo "_law_fresh", .glo "_law_right", .glo "law", .free "all", .free "bool", .free "enumerate", .free "int", .free "isinstance", .free "len", .free "list", .free "max", .free "min", .free "range", .free "repr", .free "sum", .free "tuple", .int "MOST_NAMES" 6]
abbrev R : PySem.W.OpenRow := PySem.W.OpenLaw.row PySem.Challenge.rw_howeverwide_k14_whole_stands_reached
abbrev hk : PySem.W.Hook := hookT 4 "_law_right" fa fn (fun _ => true)
def ob (s : PySem.W.SharedT) : He.AlD × Bool := obsT 4 "_law_right" fa fn (fun _ => true) (HandSHeadRun.getT s)
theorem ob_eq (s : PySem.W.SharedT) : ob s = hk.obs s.abs := obsT_eq (HandSHeadRun.getT_eq s)
def loose0 : List PySem.Str := ["ClaimError", "InvalidTable", "MOST_NAMES", "is_whole", "is_count_to", "is_table_form", "is_step", "first_rows", "check_table", "table_ends", "reached", "first_taken", "_law_hash", "_law_random", "_law_cell", "_law_generator", "_law_two", "_law_table", "_law_rows", "_law_behind"]
def loose1 : List PySem.Str := ["_law_takes", "_law_reached", "_law_alike", "_law_least", "_law_product", "_law_whole", "_law_some", "_law_turned", "_law_placed", "_law_kept", "_law_marked", "_law_fresh", "_law_right"]
def loose : List PySem.Str := loose0 ++ loose1
theorem run (w : World) : HandSHeadRun.RunEq R (PySem.W.view R.prog [38]) hk ob 4000 loose w := by
  intro os
  kernel_rfl
theorem facts {P : Program} {w : World} {K : PySem.W.Frag} {h : Heap} {mg : Str → Option Value} {f cc tt : Addr} (X : K.In h) (G : h.Ns mainGlobals mg) (hfa : mg ("law" : Str) = some (.ref f)) (c : He.SaysD fa fn K) (hcc : codeAt (fun _ => none) K "_law_right" = cc) :
    ∃ fd : FuncData, (∀ (s : Shared) (v : Value), BindsTo s fd ⟨[v], []⟩ [("_law_script", v)]) ∧ ∀ base : Heap, K.In base → base.Ns mainGlobals mg → LamX.TabB base mg cc tt → FnG P w K mg base CX0 10 f fd ["_law_script"] (spLaw K tt) := by
  obtain ⟨e_is_whole, F_is_whole⟩ := c.def_ 0 (d := d_is_whole) rfl
  obtain ⟨e_is_count_to, F_is_count_to⟩ := c.def_ 1 (d := d_is_count_to) rfl
  obtain ⟨e_is_table_form, F_is_table_form⟩ := c.def_ 2 (d := d_is_table_form) rfl
  obtain ⟨e_is_step, F_is_step⟩ := c.def_ 3 (d := d_is_step) rfl
  obtain ⟨e_first_rows, F_first_rows⟩ := c.def_ 4 (d := d_first_rows) rfl
  obtain ⟨e_check_table, F_check_table⟩ := c.def_ 5 (d := d_check_table) rfl
  obtain ⟨e_table_ends, F_table_ends⟩ := c.def_ 6 (d := d_table_ends) rfl
  obtain ⟨e_reached, F_reached⟩ := c.def_ 7 (d := d_reached) rfl
  obtain ⟨e_first_taken, F_first_taken⟩ := c.def_ 8 (d := d_first_taken) rfl
  obtain ⟨e_law_hash, F_law_hash⟩ := c.def_ 9 (d := d_law_hash) rfl
  obtain ⟨e_law_random, F_law_random⟩ := c.def_ 10 (d := d_law_random) rfl
  obtain ⟨e_law_cell, F_law_cell⟩ := c.def_ 11 (d := d_law_cell) rfl
  obtain ⟨e_law_generator, F_law_generator⟩ := c.def_ 12 (d := d_law_generator) rfl
  obtain ⟨e_law_two, F_law_two⟩ := c.def_ 13 (d := d_law_two) rfl
  obtain ⟨e_law_table, F_law_table⟩ := c.def_ 14 (d := d_law_table) rfl
  obtain ⟨e_law_rows, F_law_rows⟩ := c.def_ 15 (d := d_law_rows) rfl
  obtain ⟨e_law_behind, F_law_behind⟩ := c.def_ 16 (d := d_law_behind) rfl
  obtain ⟨e_law_marked, F_law_marked⟩ := c.def_ 17 (d := d_law_marked) rfl
  obtain ⟨e_law_fresh, F_law_fresh⟩ := c.def_ 18 (d := d_law_fresh) rfl
  obtain ⟨e_law_right, F_law_right⟩ := c.def_ 19 (d := d_law_right) rfl
  obtain ⟨e_law, F_law⟩ := c.def_ 20 (d := d_law) rfl
  have g_is_whole := He.glo_ok X G (c.fact 0 (f := .glo "is_whole") rfl)
  have g_is_count_to := He.glo_ok X G (c.fact 1 (f := .glo "is_count_to") rfl)
  have g_is_table_form := He.glo_ok X G (c.fact 2 (f := .glo "is_table_form") rfl)
  have g_is_step := He.glo_ok X G (c.fact 3 (f := .glo "is_step") rfl)
  have g_first_rows := He.glo_ok X G (c.fact 4 (f := .glo "first_rows") rfl)
  have g_check_table := He.glo_ok X G (c.fact 5 (f := .glo "check_table") rfl)
  have g_table_ends := He.glo_ok X G (c.fact 6 (f := .glo "table_ends") rfl)
  have g_reached := He.glo_ok X G (c.fact 7 (f := .glo "reached") rfl)
  have g_first_taken := He.glo_ok X G (c.fact 8 (f := .glo "first_taken") rfl)
  have g_law_hash := He.glo_ok X G (c.fact 9 (f := .glo "_law_hash") rfl)
  have g_law_random := He.glo_ok X G (c.fact 10 (f := .glo "_law_random") rfl)
  have g_law_cell := He.glo_ok X G (c.fact 11 (f := .glo "_law_cell") rfl)
  have g_law_generator := He.glo_ok X G (c.fact 12 (f := .glo "_law_generator") rfl)
  have g_law_two := He.glo_ok X G (c.fact 13 (f := .glo "_law_two") rfl)
  have g_law_table := He.glo_ok X G (c.fact 14 (f := .glo "_law_table") rfl)
  have g_law_rows := He.glo_ok X G (c.fact 15 (f := .glo "_law_rows") rfl)
  have g_law_behind := He.glo_ok X G (c.fact 16 (f := .glo "_law_behind") rfl)
  have g_law_marked := He.glo_ok X G (c.fact 17 (f := .glo "_law_marked") rfl)
  have g_law_fresh := He.glo_ok X G (c.fact 18 (f := .glo "_law_fresh") rfl)
  have g_law_right := He.glo_ok X G (c.fact 19 (f := .glo "_law_right") rfl)
  have g_law := He.glo_ok X G (c.fact 20 (f := .glo "law") rfl)
  have i_MOST_NAMES : ∃ u, mg "MOST_NAMES" = some u ∧ RelV (.int 6) u := by
    obtain ⟨t, q⟩ := He.int_ok X G (c.fact 34 (f := .int "MOST_NAMES" 6) rfl)
    exact ⟨_, q, t, rfl⟩
  have e := hfa.symm.trans g_law
  cases e
  let T : Tx K mg := { a_is_whole := _, d_is_whole := e_is_whole, F_is_whole := F_is_whole, g_is_whole := g_is_whole, a_is_count_to := _, d_is_count_to := e_is_count_to, F_is_count_to := F_is_count_to, g_is_count_to := g_is_count_to, a_is_table_form := _, d_is_table_form := e_is_table_form, F_is_table_form := F_is_table_form, g_is_table_form := g_is_table_form, a_is_step := _, d_is_step := e_is_step, F_is_step := F_is_step, g_is_step := g_is_step, a_first_rows := _, d_first_rows := e_first_rows, F_first_rows := F_first_rows, g_first_rows := g_first_rows, a_check_table := _, d_check_table := e_check_table, F_check_table := F_check_table, g_check_table := g_check_table, a_table_ends := _, d_table_ends := e_table_ends, F_table_ends := F_table_ends, g_table_ends := g_table_ends, a_reached := _, d_reached := e_reached, F_reached := F_reached, g_reached := g_reached, a_first_taken := _, d_first_taken := e_first_taken, F_first_taken := F_first_taken, g_first_taken := g_first_taken, a_law_hash := _, d_law_hash := e_law_hash, F_law_hash := F_law_hash, g_law_hash := g_law_hash, a_law_random := _, d_law_random := e_law_random, F_law_random := F_law_random, g_law_random := g_law_random, a_law_cell := _, d_law_cell := e_law_cell, F_law_cell := F_law_cell, g_law_cell := g_law_cell, a_law_generator := _, d_law_generator := e_law_generator, F_law_generator := F_law_generator, g_law_generator := g_law_generator, a_law_two := _, d_law_two := e_law_two, F_law_two := F_law_two, g_law_two := g_law_two, a_law_table := _, d_law_table := e_law_table, F_law_table := F_law_table, g_law_table := g_law_table, a_law_rows := _, d_law_rows := e_law_rows, F_law_rows := F_law_rows, g_law_rows := g_law_rows, a_law_behind := _, d_law_behind := e_law_behind, F_law_behind := F_law_behind, g_law_behind := g_law_behind, a_law_marked := _, d_law_marked := e_law_marked, F_law_marked := F_law_marked, g_law_marked := g_law_marked, a_law_fresh := _, d_law_fresh := e_law_fresh, F_law_fresh := F_law_fresh, g_law_fresh := g_law_fresh, a_law_right := _, d_law_right := e_law_right, F_law_right := F_law_right, g_law_right := g_law_right, a_law := _, d_law := e_law, F_law := F_law, g_law := g_law, z_all := He.free_ok X G (c.fact 21 (f := .free "all") rfl), z_bool := He.free_ok X G (c.fact 22 (f := .free "bool") rfl), z_enumerate := He.free_ok X G (c.fact 23 (f := .free "enumerate") rfl), z_int := He.free_ok X G (c.fact 24 (f := .free "int") rfl), z_isinstance := He.free_ok X G (c.fact 25 (f := .free "isinstance") rfl), z_len := He.free_ok X G (c.fact 26 (f := .free "len") rfl), z_list := He.free_ok X G (c.fact 27 (f := .free "list") rfl), z_max := He.free_ok X G (c.fact 28 (f := .free "max") rfl), z_min := He.free_ok X G (c.fact 29 (f := .free "min") rfl), z_range := He.free_ok X G (c.fact 30 (f := .free "range") rfl), z_repr := He.free_ok X G (c.fact 31 (f := .free "repr") rfl), z_sum := He.free_ok X G (c.fact 32 (f := .free "sum") rfl), z_tuple := He.free_ok X G (c.fact 33 (f := .free "tuple") rfl), c_MOST_NAMES := i_MOST_NAMES }
  have b := FunD.bindsA (ps := ["_law_script"]) F_law fun _ _ _ _ _ _ us hl => match us, hl with | [_], _ => rfl
  exact ⟨e_law, fun s v => b s [v] rfl, fun base _ _ TB => ok_law T (by rw [← hcc]; exact code_of (x := "_law_right") (y := "_law_right") (st := s_law_right) F_law_right (by rfl)) TB⟩
end K14E
open PySem PySem.W PySem.Calls PyProof.Rows
set_option maxRecDepth 100000 in
set_option maxHeartbeats 0 in
theorem PySem.Challenge.cw_howeverwide_k14_whole_stands_reached_holds : PySem.Challenge.rw_howeverwide_k14_whole_stands_reached.Holds := by
  w_on; o_law
  refine HandSHeadRun.head_any (r := OpenLaw.row PySem.Challenge.rw_howeverwide_k14_whole_stands_reached) (q := view (OpenLaw.row PySem.Challenge.rw_howeverwide_k14_whole_stands_reached).prog [38]) (H := K14E.hk) (ob := K14E.ob) (M := 4000) (loose := K14E.loose) (d := HandSHeadRun.topDef (OpenLaw.row PySem.Challenge.rw_howeverwide_k14_whole_stands_reached).prog 38) (kwd := []) K14E.ob_eq
    (by kernel_rfl) (fun s => by kernel_rfl) K14E.run (by kernel_rfl) (by kernel_rfl) (by kernel_rfl) (by rfl) (by first | assumption | decide +kernel) (by decide +kernel) ⟨rfl, rfl, rfl, rfl, rfl, by decide +kernel⟩ ?hw ?hc
  case hw => w_witness2
  case hc =>
    refine Hw.walkT (l := PySem.Challenge.rw_howeverwide_k14_whole_stands_reached) (n := 63) (k := 10) (x := "_law_script") rfl (by decide) (by kernel_rfl) ⟨rfl, by decide, by decide⟩ ?F
    intro w mg fa h Y G hmg0
    obtain ⟨K, cc, tt, KX, sx, hd, tab, noT, hcc⟩ := Y
    have hmg : mg ("law" : PySem.Str) = some (.ref fa) := by
      have e : (HandSHeadRun.topDef (OpenLaw.row PySem.Challenge.rw_howeverwide_k14_whole_stands_reached).prog 38).name = ("law" : PySem.Str) := by kernel_rfl
      rw [← e]
      exact hmg0
    obtain ⟨fd, hb, hF⟩ := K14E.facts (P := (PySem.Challenge.rw_howeverwide_k14_whole_stands_reached).prog) (w := w) KX G hmg sx.says.1 hcc
    exact ⟨K, fd, K14.spLaw K tt, cc, tt, KX, tab, noT, PySem.W.codeHd_of_K KX hd, hb, fun H a ns hl hT hS => ⟨a, ns, rfl, hl, hS, hT, fun _ => rfl⟩, hF⟩
