import PyProof.Rows.All
import Wide.All
import OpenK.AllK
import Wide.FinOn
import PyProof.ReprRoads
import HandS.Base
import HandS.Call
import HandS.List
import HandS.Comp
import HandS.Ends
import HandS.Words
import HandS.Wide
import HandS.WideBits
import HandS.IsInst
import HandS.Defaults
import HandS.Flow
import HandS.Walk
import HandS.Codes
import HandS.Conv
import HandS.ForMost
import HandS.TupAny
import HandS.TupLe
import HandS.Dict
import PySem.Challenge.RW_howeverwide_k13_whole_tables_and_rows
import KE.KStateDown
import Lean
import HandS.Head0
import HandS.Head1
import HandS.Head2
import HandS.HeadEnd
import HandS.HeadHook1
import HandS.HeadHook2
set_option Elab.async false
set_option linter.all false
set_option maxRecDepth 100000
set_option maxHeartbeats 4000000
/-! A layer of ours over HandS: defs whose runs know that no repr stands around them (so that repr of lists may be shown), calls by keywords alone, repr of data, powers. -/
namespace Hw
open PySem PySem.Spec PyProof.Rows L2

/-- no repr is under way -/
abbrev Gd (A : Around) : Prop := A.guards = some []

section
variable (P : Program) (w : World) (K : PySem.W.Frag) (mg : Str → Option Value) (base : Heap) (CX : CXT)
/-- a def's promise where no repr is under way -/
structure FnG (k : Nat) (f : Addr) (fd : FuncData) (ps : List Str) (sp : Sp) : Prop where
  arity : ∀ vs H Q E, sp vs H Q E → vs.length = ps.length
  go : ∀ (A : Around) (outer : List Env) (s : Shared) (H : Hp) (args : Args) (us : List Value) (vs : List V) (Q : VK) (E : XK),
    Gd A → Room k A → Env0 P w K mg base A outer s H → BindsTo s fd args (ps.zip us) → Vals vs us → sp vs H Q E → codeAny (model P w) A (.call (.ref f) args) (CR CX outer P w H s Q E) s
end
section
variable {P : Program} {w : World} {K : PySem.W.Frag} {mg : Str → Option Value} {base : Heap} {CX : CXT}
theorem FnG.up {j k : Nat} {f : Addr} {fd : FuncData} {ps : List Str} {sp : Sp} (F : FnG P w K mg base CX j f fd ps sp) (h : j ≤ k) : FnG P w K mg base CX k f fd ps sp :=
  ⟨F.arity, fun A outer s H args us vs Q E g r => F.go A outer s H args us vs Q E g (r.mono h)⟩
theorem FnG.weak {k : Nat} {f : Addr} {fd : FuncData} {ps : List Str} {sp sp' : Sp} (F : FnG P w K mg base CX k f fd ps sp) (h : ∀ vs H Q E, sp' vs H Q E → sp vs H Q E) : FnG P w K mg base CX k f fd ps sp' :=
  ⟨fun vs H Q E q => F.arity vs H Q E (h _ _ _ _ q), fun A outer s H args us vs Q E g r e b v q => F.go A outer s H args us vs Q E g r e b v (h _ _ _ _ q)⟩
theorem FnG.ofOk {k : Nat} {f : Addr} {fd : FuncData} {ps : List Str} {sp : Sp} (F : FnOk P w K mg base CX k f fd ps sp) : FnG P w K mg base CX k f fd ps sp :=
  ⟨F.len, fun A outer s H args us vs Q E _ => F.run A outer s H args us vs Q E⟩

/-- a def of the text without defaults -/
abbrev DefAt (K : PySem.W.Frag) (x : Str) (st : Stmt) (f : Addr) (fd : FuncData) : Prop := FunD K x x (defArgs st) (defBody st) (defScope st) [] [] f fd

/-- the rule of a def's body, where no repr is under way -/
theorem bodyG {x qual : Str} {params : Arguments} {body : List Stmt} {scope : Scope} {dvs : List V} {kws : List (Str × V)} {f : Addr} {fd : FuncData} {N ps : List Str} {k : Nat} {sp : Sp}
    (F : FunD K x qual params body scope dvs kws f fd) (S : FnScope N ps scope) (ar : ∀ vs H Q E, sp vs H Q E → vs.length = ps.length)
    (hb : ∀ (cdv : Value) (A : Around) (outer : List Env) (s : Shared) (H : Hp) (vs : List V) (Q : VK) (E : XK), Gd (A.deeper (envOfC qual scope s.heap.objs.size f cdv)) → Room k (A.deeper (envOfC qual scope s.heap.objs.size f cdv)) → sp vs H Q E →
      ∃ t, PSs (cxOf CX P w K mg base N qual scope f cdv A outer s H E) body t ∧ t { nx := fun _ H' => Q .non H', rt := Q } (start N vs) H) : FnG P w K mg base CX (k + 1) f fd ps sp := by
  refine ⟨ar, ?_⟩
  intro A outer s H args us vs Q E gd room env bind rel want
  obtain ⟨oc, od, dV, kV, doc, pm, an, cdv, ct, osl, rfl, look, codeIs, -, -⟩ := F.ex
  have inK : K.In s.heap := env.mod.kin.keeps fun b o q => (env.bs b o q).1
  have noLim : s.heap.NoLimit := env.mod.nolimit.keeps fun b o q => (env.bs b o q).1
  have kinds : ∀ y ∈ ps.zip us, scope.names.lookup y.1 = some .local ∨ (scope.names.lookup y.1 = some .cell ∧ ((cellsFrom (s.heap.objs.size + 1) scope.names []).lookup y.1).isSome = true) := by
    rintro ⟨n, v⟩ hy
    cases S.par n (List.of_mem_zip hy).1 with
    | inl q => exact Or.inl q
    | inr q => exact Or.inr ⟨q, PySem.W.cellsFrom_some _ _ _ (Or.inl q)⟩
  refine codeAny_call_function room.depth (inK _ _ look) rfl S.co S.gen rfl (PySem.W.codeRec_of inK codeIs) (bind _ _ _ _ ?_)
  refine wpAny_newFunctionEnv_cells S.kind kinds ?_
  rintro env' rfl s1 x1
  refine ⟨noLim.keeps x1.toInCall.keep, codeAny_func ?_⟩
  obtain ⟨t, run, done⟩ := hb cdv A outer s H vs Q E gd (room.deeper _) want
  have I := inv_start (CX := CX) (E := E) S room.hd env (ar _ _ _ _ want) rel x1
  refine wpAny_mono (run.run [] s1 (start N vs) H _ I done) ?_ (fun _ _ q => q)
  intro fl s' after
  cases fl with
  | ret u =>
    obtain ⟨v, σ', H', J, rv, q⟩ := after
    exact ⟨v, H', J.os, J.bare, J.base, J.hok, rv, q⟩
  | next =>
    obtain ⟨σ', H', J, q⟩ := after
    exact ⟨V.non, H', J.os, J.bare, J.base, J.hok, rfl, q⟩
  | brk => exact (after.choose_spec.choose_spec.2 : False).elim
  | cont => exact (after.choose_spec.choose_spec.2 : False).elim
/-- the same for a def that lets nothing out -/
theorem bodyG0 {x : Str} {st : Stmt} {f : Addr} {fd : FuncData} {N ps : List Str} {k : Nat} {sp : Sp}
    (F : DefAt K x st f fd) (S : FnScope N ps (defScope st)) (ar : ∀ vs H Q E, sp vs H Q E → vs.length = ps.length)
    (hb : ∀ (cdv : Value) (A : Around) (outer : List Env) (s : Shared) (H : Hp) (vs : List V) (Q : VK) (E : XK), Gd (A.deeper (envOfC x (defScope st) s.heap.objs.size f cdv)) → Room k (A.deeper (envOfC x (defScope st) s.heap.objs.size f cdv)) → sp vs H Q E →
      ∃ t, PSs (cxOf CX0 P w K mg base N x (defScope st) f cdv A outer s H E).nox (defBody st) t ∧ t { nx := fun _ H' => Q .non H', rt := Q } (start N vs) H) : FnG P w K mg base CX0 (k + 1) f fd ps sp :=
  bodyG F S ar fun cdv A outer s H vs Q E gd room want => by
    obtain ⟨t, a, b⟩ := hb cdv A outer s H vs Q E gd room want
    exact ⟨t, a.nox, b⟩
end

section
variable {X : Cx} {CX : CXT} {k : Nat} {f : Addr} {fd : FuncData} {ps ks : List Str} {sp : Sp} {dvs : List V} {ds : List Value} {E : XK} {x : Str} {p pos : Pos} {e : Expr} {es : List Expr} {kws : List Keyword} {t tk : TA}
theorem runG {pins : List (Addr × Obj)} {σ : L2.St} {H : Hp} {s : Shared} {Q : VK} {us0 : List Value} {kw : List (Str × Value)} {us : List Value} {vs : List V} (F : FnG X.prog X.w X.K X.mg X.base CX k f fd ps sp) (gd : Gd X.A) (hr : Room k X.A) (hx : Passes CX X E)
    (I : Inv X pins σ H s) (hb : BindsTo s fd ⟨us0, kw⟩ (ps.zip us)) (r : Vals vs us) (h : sp vs H Q E) : wpAny (model X.prog X.w) X.A (call (.ref f) us0 kw) (EP X pins σ Q) X.xe s := by
  refine wpAny_call (codeAny_mono (F.go X.A X.stack s H ⟨us0, kw⟩ us vs Q E gd hr I.env0 hb r h) ?_)
  intro r s' q
  match r, q with
  | .error e, q => exact hx pins σ H s e s' I q
  | .ok (.ret u), q => exact I.after q
  | .ok .next, q => exact (show False from q).elim
  | .ok .brk, q => exact (show False from q).elim
  | .ok .cont, q => exact (show False from q).elim
/-- f(e, ..) -/
theorem pe_g (F : FnG X.prog X.w X.K X.mg X.base CX k f fd ps sp) (gd : Gd X.A) (hr : Room k X.A) (hg : Gl X x) (hm : X.mg x = some (.ref f)) (hk : PySem.W.keepIn X.K (.ref f) = true) (hb : Binds X.K fd ps ds) (hd : Vals dvs ds) (hx : Passes CX X E)
    (ha : PA X (e :: es) t) (hdb : (x == ("__debug__" : Str)) = false := by decide) (he : starEach (e :: es) X.env = (false, eval e X.env) :: starEach es X.env := by rfl) (hpl : (backTo pos (starEach es X.env)).any (·.1) = false := by rfl) :
    PE X (.Call (.Name x p) (e :: es) [] pos) (tCall sp dvs E t) := by
  constructor
  intro pins s σ H Q I h
  apply wpAny_Call_Name_kw
  refine ld_glob I hg hm (PySem.W.callWith_K (h₀ := X.base) I.ok.mod.kin hk (thn (ha.run pos pins s σ H _ I h) ?_) he hpl) hdb
  rintro us s1 ⟨vs, H1, I1, r, q⟩
  have r2 : Vals (vs ++ dvs) (us ++ ds) := r.append hd
  exact ⟨I1.kIn, runG F gd hr hx I1 (hb s1 us I1.kIn (r2.length.symm.trans (F.arity _ _ _ _ q))) r2 q⟩
/-- f() -/
theorem pe_g0 (F : FnG X.prog X.w X.K X.mg X.base CX k f fd ps sp) (gd : Gd X.A) (hr : Room k X.A) (hg : Gl X x) (hm : X.mg x = some (.ref f)) (hk : PySem.W.keepIn X.K (.ref f) = true) (hb : Binds X.K fd ps ds) (hd : Vals dvs ds) (hx : Passes CX X E)
    (hdb : (x == ("__debug__" : Str)) = false := by decide) : PE X (.Call (.Name x p) [] [] pos) (tCall sp dvs E tNil) := by
  constructor
  intro pins s σ H Q I h
  apply wpAny_Call_Name_kw
  refine ld_glob I hg hm (PySem.W.callWith_K0 I.kIn hk ?_) hdb
  have r2 : Vals ([] ++ dvs) ([] ++ ds) := Vals.append .nil hd
  exact runG (us0 := []) F gd hr hx I (hb s [] I.kIn (r2.length.symm.trans (F.arity _ _ _ _ h))) r2 h
/-- how a call by keywords alone binds: the keywords ks, brought into the parameters' order by g (by gV the values) -/
structure KwB (fd : FuncData) (ps ks : List Str) (g : List Value → List Value) (gV : List V → List V) : Prop where
  to : ∀ (s : Shared) (ws : List Value), ws.length = ks.length → BindsTo s fd ⟨[], ks.zip ws⟩ (ps.zip (g ws))
  rel : ∀ {zs : List V} {ws : List Value}, zs.length = ks.length → Vals zs ws → Vals (gV zs) (g ws)
def tCallW (sp : Sp) (n : Nat) (gV : List V → List V) (E : XK) (tk : TA) : TE := fun σ H Q => tk σ H fun zs H1 => zs.length = n ∧ sp (gV zs) H1 Q E
/-- f(k = v, ..) -/
theorem pe_gk {g : List Value → List Value} {gV : List V → List V} (F : FnG X.prog X.w X.K X.mg X.base CX k f fd ps sp) (gd : Gd X.A) (hr : Room k X.A) (hg : Gl X x) (hm : X.mg x = some (.ref f)) (hk : PySem.W.keepIn X.K (.ref f) = true) (hb : KwB fd ps ks g gV) (hx : Passes CX X E)
    (hkw : PK X kws tk) (hall : (backToKw pos (keywordEach kws X.env)).all (·.1.isSome) = true := by rfl) (hks : (backToKw pos (keywordEach kws X.env)).filterMap (·.1) = ks := by rfl) (hdb : (x == ("__debug__" : Str)) = false := by decide)
    (hpl : ((backTo pos (starEach [] X.env)).any (·.1) || (backToKw pos (keywordEach kws X.env)).any (·.1.isNone)) = false := by rfl) :
    PE X (.Call (.Name x p) [] kws pos) (tCallW sp ks.length gV E tk) := by
  constructor
  intro pins s σ H Q I h
  apply wpAny_Call_Name_kw
  refine ld_glob I hg hm (PySem.W.callWith_KW0 (h₀ := X.base) I.ok.mod.kin hk hall (thn (hkw.run pos pins s σ H _ I h) ?_) hpl) hdb
  rintro ws s1 ⟨zs, H1, I1, rz, l, q⟩
  rw [hks]
  exact ⟨I1.kIn, runG (us0 := []) F gd hr hx I1 (hb.to s1 ws (rz.length.symm.trans l)) (hb.rel l rz) q⟩
end

/-! ### operators -/
def CPowW (i j : Int) : Prop := 0 ≤ j ∧ (Builtin.Int.intBits i : Int) * j ≤ 2 ^ 27
theorem powW_ok {i : Int} {n j : Nat} (h : i.natAbs < 2 ^ n) (hj : n * j ≤ 134217728) : CPowW i (j : Int) := by
  have b := PyProof.Rows.intBits_le h
  refine ⟨Int.natCast_nonneg _, ?_⟩
  have e : (2 : Int) ^ 27 = 134217728 := by decide
  rw [e, ← Int.natCast_mul]
  have c : Builtin.Int.intBits i * j ≤ n * j := Nat.mul_le_mul_right j b
  omega
section
variable {X : Cx}
theorem op_powW : OpR X (binaryOp .Pow) (rI CPowW fun i j => .int (i ^ j.toNat)) := opI fun _ _ _ _ _ _ _ hc q => pow_int hc.1 hc.2 q
end
/-! ### data that may be shown and compared -/
mutual
/-- data without dicts, of numbers of at most 38 figures and plain texts -/
def okD : PyData → Bool
  | .none | .bool _ => true
  | .int i => decide (i.natAbs < 10 ^ 38)
  | .str x => PyData.strOk x && x.cps.toList.all fun c => decide (c < 16 ^ 8)
  | .list xs | .tuple xs => okDs xs
  | .dict _ => false
def okDs : List PyData → Bool
  | [] => true
  | x :: xs => okD x && okDs xs
end
theorem int38 {i : Int} (h : i.natAbs < 10 ^ 38) : i.natAbs.log2 < 1920 :=
  Nat.lt_of_lt_of_le (PySem.Flt.log2_lt_of (k := 127) (by decide) (Nat.lt_of_lt_of_le h (by decide +kernel))) (by decide)
theorem short38 {i : Int} (h : i.natAbs < 10 ^ 38) : (PyData.shown (.int i)).length ≤ 40 := by
  have e := int_text_length_le10 (k := 38) (by decide) h
  show (Str.ofString (toString i)).length ≤ 40
  rw [PySem.ofString_length]
  omega
mutual
theorem okD_all : ∀ d : PyData, okD d = true → d.canLay0 = true ∧ d.showable = true ∧ d.hasDict = false ∧ d.leavesShort 40 = true
  | .none, _ => ⟨by simp only [PyData.canLay0], by simp only [PyData.showable], by simp only [PyData.hasDict], by simp only [PyData.leavesShort]⟩
  | .bool _, _ => ⟨by simp only [PyData.canLay0], by simp only [PyData.showable], by simp only [PyData.hasDict], by simp only [PyData.leavesShort]⟩
  | .int i, h => by
    have h' : i.natAbs < 10 ^ 38 := by simpa only [okD, decide_eq_true_eq] using h
    exact ⟨by simp only [PyData.canLay0], by simp only [PyData.showable, decide_eq_true_eq]; exact int38 h', by simp only [PyData.hasDict], by simp only [PyData.leavesShort, decide_eq_true_eq]; exact short38 h'⟩
  | .str x, h => by
    have h' : PyData.strOk x = true ∧ (x.cps.toList.all fun c => decide (c < 16 ^ 8)) = true := by simpa only [okD, Bool.and_eq_true] using h
    exact ⟨by simp only [PyData.canLay0]; exact h'.1, by simp only [PyData.showable], by simp only [PyData.hasDict], by simp only [PyData.leavesShort]; exact h'.2⟩
  | .list xs, h => by
    obtain ⟨a, b, c, d⟩ := okDs_all xs (by simpa only [okD] using h)
    exact ⟨by simp only [PyData.canLay0]; exact a, by simp only [PyData.showable]; exact b, by simp only [PyData.hasDict]; exact c, by simp only [PyData.leavesShort]; exact d⟩
  | .tuple xs, h => by
    obtain ⟨a, b, c, d⟩ := okDs_all xs (by simpa only [okD] using h)
    exact ⟨by simp only [PyData.canLay0]; exact a, by simp only [PyData.showable]; exact b, by simp only [PyData.hasDict]; exact c, by simp only [PyData.leavesShort]; exact d⟩
  | .dict _, h => by simp only [okD] at h; cases h
theorem okDs_all : ∀ ds : List PyData, okDs ds = true → PyData.canLayAll0 ds = true ∧ PyData.showableAll ds = true ∧ PyData.hasDictAll ds = false ∧ PyData.leavesShortAll 40 ds = true
  | [], _ => ⟨by simp only [PyData.canLayAll0], by simp only [PyData.showableAll], by simp only [PyData.hasDictAll], by simp only [PyData.leavesShortAll]⟩
  | x :: xs, h => by
    have h' : okD x = true ∧ okDs xs = true := by simpa only [okDs, Bool.and_eq_true] using h
    obtain ⟨a, b, c, d⟩ := okD_all x h'.1
    obtain ⟨a2, b2, c2, d2⟩ := okDs_all xs h'.2
    exact ⟨by simp only [PyData.canLayAll0, a, a2, Bool.and_self], by simp only [PyData.showableAll, b, b2, Bool.and_self], by simp only [PyData.hasDictAll, c, c2, Bool.or_self], by simp only [PyData.leavesShortAll, d, d2, Bool.and_self]⟩
end
structure Nice (d : PyData) : Prop where
  ok : okD d = true
  deep : d.depth ≤ 60
  small : d.bulk ≤ 262144
theorem Nice.shaped {d : PyData} (n : Nice d) : SeqAt.shaped d = true := by
  show (d.canLay0 && decide (d.depth ≤ 64)) = true
  rw [(okD_all d n.ok).1, decide_eq_true (show d.depth ≤ 64 by have := n.deep; omega)]
  rfl
theorem Nice.fits {d : PyData} (n : Nice d) : d.shown.length ≤ sizeLine := by
  have h := PyData.shown_le_bulk 40 (by decide) d (okD_all d n.ok).2.2.2
  have k := n.small
  rw [sizeLine_eq]
  omega
theorem Nice.refl {d : PyData} (n : Nice d) : PyData.eqv d d = true := SeqAt.eqv_refl d (okD_all d n.ok).1
theorem Nice.int {i : Int} (h : i.natAbs < 10 ^ 38) : Nice (.int i) := ⟨by simp only [okD, decide_eq_true_eq]; exact h, by simp only [PyData.depth]; omega, by simp only [PyData.bulk]; omega⟩
theorem okDs_map {α : Type} (f : α → PyData) : ∀ l : List α, (∀ x ∈ l, okD (f x) = true) → okDs (l.map f) = true
  | [], _ => by simp only [List.map_nil, okDs]
  | x :: r, h => by
    simp only [List.map_cons, okDs, Bool.and_eq_true]
    exact ⟨h x (List.mem_cons_self ..), okDs_map f r fun y hy => h y (List.mem_cons_of_mem _ hy)⟩
theorem depthAll_le {n : Nat} : ∀ l : List PyData, (∀ x ∈ l, x.depth ≤ n) → PyData.depthAll l ≤ n
  | [], _ => by simp only [PyData.depthAll]; omega
  | x :: r, h => by
    have h1 := h x (List.mem_cons_self ..)
    have h2 := depthAll_le r fun y hy => h y (List.mem_cons_of_mem _ hy)
    simp only [PyData.depthAll]
    omega
theorem bulkAll_le {n : Nat} : ∀ l : List PyData, (∀ x ∈ l, x.bulk ≤ n) → PyData.bulkAll l ≤ l.length * (n + 1)
  | [], _ => by simp only [PyData.bulkAll]; omega
  | x :: r, h => by
    have h1 := h x (List.mem_cons_self ..)
    have h2 := bulkAll_le r fun y hy => h y (List.mem_cons_of_mem _ hy)
    simp only [PyData.bulkAll, List.length_cons]
    rw [Nat.succ_mul]
    omega
theorem Nice.listInt {l : List Int} (h : ∀ x ∈ l, x.natAbs < 10 ^ 38) (hl : l.length ≤ 100000) : Nice (.list (l.map .int)) := by
  refine ⟨?_, ?_, ?_⟩
  · simp only [okD]
    exact okDs_map _ l fun x hx => (Nice.int (h x hx)).ok
  · have := depthAll_le (n := 0) (l.map PyData.int) fun x hx => by
      obtain ⟨i, _, rfl⟩ := List.mem_map.mp hx
      simp only [PyData.depth]; omega
    simp only [PyData.depth]; omega
  · have := bulkAll_le (n := 0) (l.map PyData.int) fun x hx => by
      obtain ⟨i, _, rfl⟩ := List.mem_map.mp hx
      simp only [PyData.bulk]; omega
    simp only [PyData.bulk]
    rw [List.length_map] at this
    omega
theorem dps_int {K : PySem.W.Frag} {H : Hp} : ∀ l : List Int, DpAll K H (l.map V.int) (l.map PyData.int)
  | [] => .nil
  | x :: r => .cons (.int x) (dps_int r)
theorem dp_int {K : PySem.W.Frag} {H : Hp} {a : Addr} {l : List Int} (h : SqL K H a (l.map V.int)) : Dp K H (.ref a) (.list (l.map PyData.int)) := .lst h (dps_int l)
section
variable {X : Cx}
/-- repr of data: its text -/
def rRepr (K : PySem.W.Frag) : List V → Hp → VK → Prop := fun xs H Q => ∃ (x : V) (d : PyData), xs = [x] ∧ Dp K H x d ∧ Nice d ∧ Q (.str d.shown) H
theorem call_reprD (gd : Gd X.A) (hu : X.A.units + 64 < cLine) : CallR X (.builtin "repr") (rRepr X.K) := by
  intro pins s σ H xs us Q I r h
  obtain ⟨x, d, rfl, dp, nice, q⟩ := h
  obtain ⟨_, sh, nd, _⟩ := okD_all d nice.ok
  have sz := nice.fits
  have dep := nice.deep
  obtain ⟨u, rfl, ru⟩ := vals1 r
  obtain ⟨as, rd⟩ := Dp.reads I d x u dp ru
  have hsm : d.hasDict = true → sysModules ∉ as := fun e => by rw [nd] at e; cases e
  cases dp with
  | non => cases (show u = Value.none from ru); exact PySem.P.repr_of_none ⟨.str _, H, I.tok _, ⟨_, rfl⟩, q⟩
  | bl b => cases (show u = Value.bool b from ru); exact PySem.P.repr_of_bool ⟨.str _, H, I.tok _, ⟨_, rfl⟩, by simpa only [PyData.shown] using q⟩
  | int i => obtain ⟨t, rfl⟩ := ru; exact PySem.P.repr_of_int (by simpa only [PyData.showable, decide_eq_true_eq] using sh) ⟨.str _, H, I.tok _, ⟨_, rfl⟩, by simpa only [PyData.shown] using q⟩
  | str z => obtain ⟨t, rfl⟩ := ru; exact PySem.P.repr_of_str ⟨.str _, H, I.tok _, ⟨_, rfl⟩, by simpa only [PyData.shown] using q⟩ (by simpa only [PyData.shown] using sz)
  | @lst a xs ds e1 e2 =>
    cases (show u = Value.ref a from ru)
    exact repr_of_reads' rd sh hsm gd (by omega) (fun _ _ e => e) (fun h' u tk hk => ⟨.str _, H, I.kept hk, ⟨_, rfl⟩, q⟩) sz
  | @tup a xs ds e1 e2 =>
    cases (show u = Value.ref a from ru)
    exact repr_of_reads' rd sh hsm gd (by omega) (fun _ _ e => e) (fun h' u tk hk => ⟨.str _, H, I.kept hk, ⟨_, rfl⟩, q⟩) sz
end
/-! ### heaps -/
/-- all but what stands at a is as it was -/
def SameX (a : Addr) (H H' : Hp) : Prop := ∀ b o, b ≠ a → H b = some o → H' b = some o
theorem SameX.refl (a : Addr) (H : Hp) : SameX a H H := fun _ _ _ h => h
theorem SameX.of {a : Addr} {H H' : Hp} (e : Same H H') : SameX a H H' := fun b o _ h => e b o h
theorem SameX.trans {a : Addr} {H H1 H2 : Hp} (e : SameX a H H1) (f : SameX a H1 H2) : SameX a H H2 := fun b o n h => f b o n (e b o n h)
theorem SameX.upd {a : Addr} {H : Hp} {o : HO} : SameX a H (upd H a o) := fun b x n h => by rw [upd_ne n]; exact h
/-- what was there before a was made -/
theorem SameX.same {a : Addr} {H0 H H' : Hp} (e : SameX a H H') (s : Same H0 H) (n : H0 a = none) : Same H0 H' := fun b o h => e b o (ne_of_none h n) (s b o h)
theorem same_new' {H : Hp} {p : Addr} {o : HO} (h : H p = none) : Same H (upd H p o) := fun b x e => by
  rw [upd_ne (ne_of_none e h)]
  exact e
/-! ### tests -/
/-- a comprehension without a test keeps each item -/
theorem yes_if {σ : L2.St} {H : Hp} {A B : Hp → Prop} (h : A H) : tYes σ H fun b H3 => if b = true then A H3 else B H3 := by
  show if true = true then A H else B H
  exact iteT h

/-! ### the law's own call -/
section
variable {P : Program} {w : World} {K : PySem.W.Frag} {mg mb : Str → Option Value} {CX : CXT} {k : Nat} {fa a : Addr} {fd : FuncData} {x : Str} {sp : Sp} {st : Shared} {its : List Value} {ns : List Int}
/-- the call over an abstract heap that tracks nothing but (perhaps) the script -/
theorem lawG_at {H : Hp} (inK : K.In st.heap) (globals : st.heap.Ns mainGlobals mg) (blt : st.heap.Ns builtinsNs mb) (bltIs : ∀ x : Str, x ≠ "__name__" → mb x = bootBuiltins x) (noLim : st.heap.NoLimit) (noGen : st.gens = #[])
    (lst : st.heap.get? a = some { cls := .type "list", data := .seq its.toArray }) (room : Room k callerA)
    (F : ∀ base : Heap, K.In base → base.Ns mainGlobals mg → FnG P w K mg base CX k fa fd [x] sp) (binds : ∀ (s : Shared) (u : Value), BindsTo s fd ⟨[u], []⟩ [(x, u)])
    (want : sp [.ref a] H (fun v _ => v = .bl true) fun _ _ _ => False) (noEx : ∀ e s', CX [] H st (fun _ _ _ => False) e s' → False)
    (only : Only H) (held : HOk P w H st.heap) (atA : ∀ b, H b ≠ none → b = a) (notK : H a ≠ none → K.lookup a = none) :
    codeAny (model P w) callerA (.call (.ref fa) ⟨[.ref a], []⟩) (fun r s' => r = .ok (.ret (.bool true)) ∧ OldK st.heap s'.heap ∧ s'.os = st.os ∧ AllBare s'.gens) st := by
  have dicts : ∀ {b : Addr} {m : Str → Option Value}, st.heap.Ns b m → (hidT st.heap H).Ns b m := by
    rintro b m ⟨o, es, ep, q, d, rest⟩
    refine ⟨o, es, ep, hidT_get q ?_, d, rest⟩
    cases z : H b with
    | none => rfl
    | some u =>
      have eb := atA b (by rw [z]; exact Option.some_ne_none u)
      rw [eb, lst] at q
      have eo := Option.some.inj q
      rw [← eo] at d
      exact (nomatch (show Data.seq its.toArray _ = Data.dict es ep from d))
  have baseK : K.In (hidT st.heap H) := by
    intro b o q
    refine hidT_get (inK b o q) ?_
    cases z : H b with
    | none => rfl
    | some u =>
      have ne : H b ≠ none := by rw [z]; exact Option.some_ne_none u
      have eb := atA b ne
      subst eb
      rw [notK ne] at q
      exact nomatch q
  obtain ⟨mc, l1, l2⟩ := noLim
  have env : Env0 P w K mg (hidT st.heap H) callerA [] st H :=
    { frames := rfl, mod := { kin := baseK, glob := dicts globals, blt := ⟨mb, dicts blt, bltIs⟩, nolimit := ⟨mc, dicts l1, l2⟩ }, bs := fun b o q => of_hidT q,
      bsz := Nat.le_of_eq (hidT_size _ _), funs := trivial, frf := fun b z => (nomatch z), hok := held, bare := .of_eq noGen }
  refine codeAny_mono ((F _ baseK (dicts globals)).go callerA [] st H ⟨[.ref a], []⟩ [.ref a] [.ref a] _ _ rfl room env (binds st (.ref a)) (.cons rfl .nil) want) ?_
  intro r s' q
  match r, q with
  | .error e, q => exact (noEx e s' q).elim
  | .ok .next, q => exact (show False from q).elim
  | .ok .brk, q => exact (show False from q).elim
  | .ok .cont, q => exact (show False from q).elim
  | .ok (.ret u), ⟨v, H', eos, bare, un, held', rv, ev⟩ =>
    have ev' : v = .bl true := ev
    subst ev'
    cases (show u = Value.bool true from rv)
    refine ⟨rfl, OldK.of_keep ?_, eos, bare⟩
    intro b o q
    cases z : H b with
    | none => exact un.keep b o q z (fun y => nomatch y) (fun y => nomatch y)
    | some u =>
      obtain y | ⟨ob, xs, y⟩ := only b
      · rw [z] at y
        exact nomatch y
      · have q1 := (held b _ y).1
        have q2 := (held' b _ (un.frzs b ob _ y)).1
        rw [q] at q1
        rw [Option.some.inj q1]
        exact q2
theorem lawG (inK : K.In st.heap) (globals : st.heap.Ns mainGlobals mg) (blt : st.heap.Ns builtinsNs mb) (bltIs : ∀ x : Str, x ≠ "__name__" → mb x = bootBuiltins x) (noLim : st.heap.NoLimit) (noGen : st.gens = #[])
    (lst : st.heap.get? a = some { cls := .type "list", data := .seq its.toArray }) (areInts : IntsAre its ns) (len : ns.length ≤ sizeLine) (room : Room k callerA)
    (F : ∀ base : Heap, K.In base → base.Ns mainGlobals mg → FnG P w K mg base CX k fa fd [x] sp) (binds : ∀ (s : Shared) (u : Value), BindsTo s fd ⟨[u], []⟩ [(x, u)])
    (want : ∀ H : Hp, Only H → SqL K H a (ns.map V.int) → sp [.ref a] H (fun v _ => v = .bl true) fun _ _ _ => False) (noEx : ∀ H e s', CX [] H st (fun _ _ _ => False) e s' → False) :
    codeAny (model P w) callerA (.call (.ref fa) ⟨[.ref a], []⟩) (fun r s' => r = .ok (.ret (.bool true)) ∧ OldK st.heap s'.heap ∧ s'.os = st.os ∧ AllBare s'.gens) st := by
  have rel := vals_ints areInts
  cases z : K.lookup a with
  | some o =>
    have q := inK a o z
    rw [lst] at q
    have eo := Option.some.inj q
    subst eo
    have only : Only (fun _ => none) := fun _ => Or.inl rfl
    have sq : SqL K (fun _ => none) a (ns.map V.int) := Or.inr ⟨_, its.toArray, _, z, rfl, rfl, rfl, by rw [List.size_toArray, areInts.length]; exact len, rel⟩
    exact lawG_at inK globals blt bltIs noLim noGen lst room F binds (want _ only sq) (noEx _) only (fun b u y => nomatch (show none = some u from y)) (fun b y => (y rfl).elim) (fun y => (y rfl).elim)
  | none =>
    let H : Hp := upd (fun _ => none) a (.frz { cls := .type "list", data := .seq its.toArray } (.lst (ns.map V.int)))
    have at1 : H a = some (.frz { cls := .type "list", data := .seq its.toArray } (.lst (ns.map V.int))) := upd_same
    have off : ∀ b, b ≠ a → H b = none := fun b hb => upd_ne hb
    have only : Only H := by
      intro b
      by_cases hb : b = a
      · rw [hb]
        exact Or.inr ⟨_, _, at1⟩
      · exact Or.inl (off b hb)
    have only1 : ∀ b, H b ≠ none → b = a := by
      intro b y
      by_cases hb : b = a
      · exact hb
      · exact (y (off b hb)).elim
    have held : HOk P w H st.heap := by
      intro b u y
      have hb : b = a := only1 b (by rw [y]; exact Option.some_ne_none u)
      subst hb
      rw [at1] at y
      rw [← Option.some.inj y]
      exact ⟨lst, by rw [List.length_map]; exact len, its, _, rel, lst⟩
    exact lawG_at inK globals blt bltIs noLim noGen lst room F binds (want _ only (Or.inl (Or.inr ⟨_, at1⟩))) (noEx _) only held only1 fun _ => z
end
/-- a law: what the head leaves, from the law's promise -/
theorem walkG {l : PySem.W.OpenLaw} {n k : Nat} {q : Program} {loose : List Str} {XP : (Str → Option Value) → Heap → Prop} {YP : World → Heap → Prop} {d : DefRec} {x : Str}
    (most : l.most = some n) (small : n ≤ sizeLine) (plain : d.params.defaults = []) (room : Room k callerA)
    (F : ∀ (w : World) (mg : Str → Option Value) (fa : Addr) (h : Heap), YP w h → h.Ns mainGlobals mg → mg d.name = some (.ref fa) →
      ∃ (K : PySem.W.Frag) (fd : FuncData) (sp : Sp), K.In h ∧ (∀ (s : Shared) (u : Value), BindsTo s fd ⟨[u], []⟩ [(x, u)]) ∧
        (∀ (H : Hp) (a : Addr) (ns : List Int), ns.length ≤ n → Only H → SqL K H a (ns.map V.int) → sp [.ref a] H (fun v _ => v = .bl true) fun _ _ _ => False) ∧
        ∀ base : Heap, K.In base → base.Ns mainGlobals mg → FnG l.prog w K mg base CX0 k fa fd [x] sp) :
    PySem.W.WalkO q loose XP YP l.row.toRowW d [] (fun f vs => PySem.call f vs) := by
  apply Att.attach_call most plain
  intro w s0 s1 mg mb fa o pm cd doc a vs ns G Y _ _ _ gl lst areInts len gens
  obtain ⟨K, fd, sp, inK, binds, want, run⟩ := F w mg fa _ Y G.T.g gl
  exact lawG inK G.T.g G.T.b G.T.builtins G.T.nolimit gens lst areInts (Nat.le_trans len small) room run binds (fun H o s => want H a ns len o s) fun _ _ _ y => y.elim
end Hw

set_option Elab.async false
set_option linter.all false
set_option maxRecDepth 100000
set_option maxHeartbeats 4000000
/-! data that stands in tracked lists, tuples, dicts -/
namespace Hw
open PySem PySem.Spec PyProof.Rows L2
mutual
inductive Dt (H : Hp) : V → PyData → Prop
  | non : Dt H .non .none
  | bl (b : Bool) : Dt H (.bl b) (.bool b)
  | int (i : Int) : Dt H (.int i) (.int i)
  | str (x : Str) : Dt H (.str x) (.str x)
  | lst {a : Addr} {xs : List V} {ds : List PyData} : H a = some (.lst xs) → DtAll H xs ds → Dt H (.ref a) (.list ds)
  | tup {a : Addr} {xs : List V} {ds : List PyData} : H a = some (.tup xs) → DtAll H xs ds → Dt H (.ref a) (.tuple ds)
  | dic {a : Addr} (kvs : List (Str × Int)) : H a = some (.dK (kvs.map fun p => (.inr p.1, .int p.2))) → Dt H (.ref a) (.dict (kvs.map fun p => (.str p.1, .int p.2)))
inductive DtAll (H : Hp) : List V → List PyData → Prop
  | nil : DtAll H [] []
  | cons {v : V} {vs : List V} {d : PyData} {ds : List PyData} : Dt H v d → DtAll H vs ds → DtAll H (v :: vs) (d :: ds)
end
mutual
theorem Dt.same {H H' : Hp} (e : Same H H') : ∀ (d : PyData) (v : V), Dt H v d → Dt H' v d
  | .none, _, h => by cases h; exact .non
  | .bool b, _, h => by cases h; exact .bl b
  | .int i, _, h => by cases h; exact .int i
  | .str x, _, h => by cases h; exact .str x
  | .list ds, _, h => by
    cases h with
    | lst hs ha => exact .lst (e _ _ hs) (DtAll.same e ds _ ha)
  | .tuple ds, _, h => by
    cases h with
    | tup hs ha => exact .tup (e _ _ hs) (DtAll.same e ds _ ha)
  | .dict ds, _, h => by
    cases h with
    | dic kvs hs => exact .dic kvs (e _ _ hs)
theorem DtAll.same {H H' : Hp} (e : Same H H') : ∀ (ds : List PyData) (vs : List V), DtAll H vs ds → DtAll H' vs ds
  | [], _, h => by cases h; exact .nil
  | d :: ds, _, h => by
    cases h with
    | cons h1 h2 => exact .cons (Dt.same e d _ h1) (DtAll.same e ds _ h2)
end
theorem Dt.to {H H' : Hp} {v : V} {d : PyData} (h : Dt H v d) (e : Same H H') : Dt H' v d := Dt.same e d v h
theorem DtAll.to {H H' : Hp} {v : List V} {d : List PyData} (h : DtAll H v d) (e : Same H H') : DtAll H' v d := DtAll.same e d v h
/-- a write at a place that held nothing of the data -/
theorem Dt.toX {a : Addr} {H H' : Hp} (e : SameX a H H') (H0 : Hp) (s : Same H0 H) (n : H0 a = none) {v : V} {d : PyData} (h : Dt H0 v d) : Dt H' v d := h.to (e.same s n)
theorem DtAll.len {H : Hp} : ∀ {vs : List V} {ds : List PyData}, DtAll H vs ds → vs.length = ds.length
  | _, _, .nil => rfl
  | _, _, .cons _ r => by rw [List.length_cons, List.length_cons, r.len]
theorem DtAll.get {H : Hp} : ∀ {vs : List V} {ds : List PyData}, DtAll H vs ds → ∀ (i : Nat) (v : V), vs[i]? = some v → ∃ d, ds[i]? = some d ∧ Dt H v d
  | _, _, .nil, i, v, h => by simp at h
  | _, _, .cons h1 r, 0, v, h => by
    have e := Option.some.inj (show some _ = some v from h)
    subst e
    exact ⟨_, rfl, h1⟩
  | _, _, .cons _ r, i + 1, v, h => r.get i v h
theorem DtAll.app {H : Hp} : ∀ {vs : List V} {ds : List PyData} {ws : List V} {es : List PyData}, DtAll H vs ds → DtAll H ws es → DtAll H (vs ++ ws) (ds ++ es)
  | _, _, _, _, .nil, k => k
  | _, _, _, _, .cons h r, k => .cons h (r.app k)
theorem DtAll.one {H : Hp} {v : V} {d : PyData} (h : Dt H v d) : DtAll H [v] [d] := .cons h .nil
theorem DtAll.ints {H : Hp} : ∀ l : List Int, DtAll H (l.map V.int) (l.map PyData.int)
  | [] => .nil
  | x :: r => .cons (.int x) (DtAll.ints r)
theorem DtAll.bls {H : Hp} : ∀ l : List Bool, DtAll H (l.map V.bl) (l.map PyData.bool)
  | [] => .nil
  | x :: r => .cons (.bl x) (DtAll.bls r)
theorem Dt.ints {H : Hp} {a : Addr} {l : List Int} (h : H a = some (.lst (l.map V.int))) : Dt H (.ref a) (.list (l.map PyData.int)) := .lst h (DtAll.ints l)
theorem readsKV {h : Heap} {P : Program} {w : World} : ∀ (kvs : List (Str × Int)) (vs : List (Key × Value)) (es : List DictEntry), KV (kvs.map fun p => ((.inr p.1 : Key), V.int p.2)) vs → PySem.Pairs (mixKind P w) es vs →
    ReadsAll h (es.map (·.key)) ((kvs.map fun p => (PyData.str p.1, PyData.int p.2)).map (·.1)) [] ∧ ReadsAll h (es.map (·.val)) ((kvs.map fun p => (PyData.str p.1, PyData.int p.2)).map (·.2)) []
  | [], _, _, .nil, .nil => ⟨.nil, .nil⟩
  | p :: r, _, _, .cons h1 t1, .cons f1 f2 t2 => by
    obtain ⟨a, b⟩ := readsKV (h := h) r _ _ t1 t2
    obtain ⟨e1, e2⟩ := h1
    skip
    skip
    obtain ⟨t, ht⟩ := e2
    constructor
    · refine ReadsAll.cons (as := []) (bs := []) ?_ a
      rw [← e1] at f1
      have f1 : keyIs (.inr p.1) _ = true := f1
      rcases keyIs_shape f1 with ⟨i, t, z, q⟩ | ⟨x, t, z, q⟩
      · cases z
      · dsimp only
        rw [q]
        cases z
        exact .str _ _
    · refine ReadsAll.cons (as := []) (bs := []) ?_ b
      dsimp only
      rw [f2, ht]
      exact .int _ _
section
variable {X : Cx} {pins : List (Addr × Obj)} {σ : L2.St} {H : Hp} {s : Shared}
mutual
theorem Dt.reads (I : Inv X pins σ H s) : ∀ (d : PyData) (v : V) (u : Value), Dt H v d → RelV v u → ∃ as, Reads s.heap u d as ∧ ((∃ kvs, d = .dict kvs) → sysModules ∉ as)
  | .none, _, _, h, r => by
    cases h
    cases r
    exact ⟨_, Reads.none, fun ⟨_, z⟩ => nomatch z⟩
  | .bool b, _, _, h, r => by
    cases h
    cases r
    exact ⟨_, Reads.bool b, fun ⟨_, z⟩ => nomatch z⟩
  | .int i, _, _, h, r => by
    cases h
    obtain ⟨t, rfl⟩ := r
    exact ⟨_, Reads.int i t, fun ⟨_, z⟩ => nomatch z⟩
  | .str x, _, _, h, r => by
    cases h
    obtain ⟨t, rfl⟩ := r
    exact ⟨_, Reads.str x t, fun ⟨_, z⟩ => nomatch z⟩
  | .list ds, _, _, h, r => by
    cases h with
    | lst hs ha =>
      cases r
      obtain ⟨its, rv, ⟨o, n, ho, hc, _, hd⟩, _⟩ := I.list (X := X) (show SqL X.K H _ _ from .inl (.inl hs))
      obtain ⟨as, hr⟩ := Dt.readsAll I ds _ its ha rv
      exact ⟨_, Reads.list ho hc hd hr, fun ⟨_, z⟩ => nomatch z⟩
  | .tuple ds, _, _, h, r => by
    cases h with
    | tup hs ha =>
      cases r
      obtain ⟨its, rv, ⟨o, ho, hc, n, hd⟩, _⟩ := I.tuple (X := X) (show SqT X.K H _ _ from .inl (.inl hs))
      obtain ⟨as, hr⟩ := Dt.readsAll I ds _ its ha rv
      exact ⟨_, Reads.tuple ho hc hd hr, fun ⟨_, z⟩ => nomatch z⟩
  | .dict ds, _, _, h, r => by
    cases h with
    | dic kvs hs =>
      cases r
      obtain ⟨_, ns, vs, kv, o, es, ep, ho, hx, hd, _, pr, _⟩ := dk_of I.hok hs
      obtain ⟨a, b⟩ := readsKV (h := s.heap) kvs vs es.toList kv pr
      refine ⟨_, Reads.dict ho hx.1 hd a b, fun _ z => ?_⟩
      simp only [List.append_nil, List.mem_singleton] at z
      rw [← z] at ns
      simp at ns
theorem Dt.readsAll (I : Inv X pins σ H s) : ∀ (ds : List PyData) (vs : List V) (us : List Value), DtAll H vs ds → Vals vs us → ∃ as, ReadsAll s.heap us ds as
  | [], _, _, h, r => by
    cases h
    cases r
    exact ⟨_, ReadsAll.nil⟩
  | d :: ds, _, _, h, r => by
    cases h with
    | cons h1 h2 =>
      cases r with
      | cons r1 r2 =>
        obtain ⟨as, q1, _⟩ := Dt.reads I d _ _ h1 r1
        obtain ⟨bs, q2⟩ := Dt.readsAll I ds _ _ h2 r2
        exact ⟨_, ReadsAll.cons q1 q2⟩
end
end
section
variable {X : Cx}
def rEqT : R2 := fun x y H Q => ∃ d e, Dt H x d ∧ Dt H y e ∧ SeqAt.shaped d = true ∧ SeqAt.shaped e = true ∧ Q (.bl (PyData.eqv d e)) H
def rNeT : R2 := fun x y H Q => ∃ d e, Dt H x d ∧ Dt H y e ∧ SeqAt.shaped d = true ∧ SeqAt.shaped e = true ∧ Q (.bl (!PyData.eqv d e)) H
theorem op_eqT (hu : X.A.units + 64 < cLine) : OpR X (compareOp .Eq) rEqT := by
  intro pins s σ H x y v u Q I rx ry h
  obtain ⟨d, e, hd, he, sd, se, q⟩ := h
  obtain ⟨as, r1, _⟩ := Dt.reads I d x v hd rx
  obtain ⟨bs, r2, _⟩ := Dt.reads I e y u he ry
  exact SeqAt.compareEq_shaped r1 r2 sd se hu ⟨.bl _, H, I, rfl, q⟩
theorem op_neT (hu : X.A.units + 64 < cLine) : OpR X (compareOp .NotEq) rNeT := by
  intro pins s σ H x y v u Q I rx ry h
  obtain ⟨d, e, hd, he, sd, se, q⟩ := h
  obtain ⟨as, r1, _⟩ := Dt.reads I d x v hd rx
  obtain ⟨bs, r2, _⟩ := Dt.reads I e y u he ry
  exact SeqAt.compareNe_shaped r1 r2 sd se hu ⟨.bl _, H, I, rfl, q⟩
/-- data whose repr can be told -/
structure Shows (d : PyData) : Prop where
  show_ : d.showable = true
  fits : d.shown.length ≤ sizeLine
  deep : d.depth ≤ 60
  top : d.hasDict = true → ∃ kvs, d = .dict kvs
theorem Nice.shows {d : PyData} (n : Nice d) : Shows d := ⟨(okD_all d n.ok).2.1, n.fits, n.deep, fun z => by rw [(okD_all d n.ok).2.2.1] at z; cases z⟩
theorem shows_empty : Shows (.dict []) := ⟨by decide +kernel, by rw [sizeLine_eq]; decide +kernel, by decide +kernel, fun _ => ⟨_, rfl⟩⟩
/-- repr of data: its text -/
def rReprT : List V → Hp → VK → Prop := fun xs H Q => ∃ (x : V) (d : PyData), xs = [x] ∧ Dt H x d ∧ Shows d ∧ Q (.str d.shown) H
theorem call_reprT (gd : Gd X.A) (hu : X.A.units + 64 < cLine) : CallR X (.builtin "repr") rReprT := by
  intro pins s σ H xs us Q I r h
  obtain ⟨x, d, rfl, dp, nice, q⟩ := h
  have sh := nice.show_
  have sz := nice.fits
  have dep := nice.deep
  obtain ⟨u, rfl, ru⟩ := vals1 r
  obtain ⟨as, rd, nm⟩ := Dt.reads I d x u dp ru
  have hsm : d.hasDict = true → sysModules ∉ as := fun e => nm (nice.top e)
  cases dp with
  | non => cases (show u = Value.none from ru); exact PySem.P.repr_of_none ⟨.str _, H, I.tok _, ⟨_, rfl⟩, q⟩
  | bl b => cases (show u = Value.bool b from ru); exact PySem.P.repr_of_bool ⟨.str _, H, I.tok _, ⟨_, rfl⟩, by simpa only [PyData.shown] using q⟩
  | int i => obtain ⟨t, rfl⟩ := ru; exact PySem.P.repr_of_int (by simpa only [PyData.showable, decide_eq_true_eq] using sh) ⟨.str _, H, I.tok _, ⟨_, rfl⟩, by simpa only [PyData.shown] using q⟩
  | str z => obtain ⟨t, rfl⟩ := ru; exact PySem.P.repr_of_str ⟨.str _, H, I.tok _, ⟨_, rfl⟩, by simpa only [PyData.shown] using q⟩ (by simpa only [PyData.shown] using sz)
  | @lst a xs ds e1 e2 =>
    cases (show u = Value.ref a from ru)
    exact repr_of_reads' rd sh hsm gd (by omega) (fun _ _ e => e) (fun h' u tk hk => ⟨.str _, H, I.kept hk, ⟨_, rfl⟩, q⟩) sz
  | @tup a xs ds e1 e2 =>
    cases (show u = Value.ref a from ru)
    exact repr_of_reads' rd sh hsm gd (by omega) (fun _ _ e => e) (fun h' u tk hk => ⟨.str _, H, I.kept hk, ⟨_, rfl⟩, q⟩) sz
  | @dic a kvs e1 =>
    cases (show u = Value.ref a from ru)
    exact repr_of_reads' rd sh hsm gd (by omega) (fun _ _ e => e) (fun h' u tk hk => ⟨.str _, H, I.kept hk, ⟨_, rfl⟩, q⟩) sz
end
/-! ### what kind data is of -/
def tyN : PyData → String
  | .none => "NoneType"
  | .bool _ => "bool"
  | .int _ => "int"
  | .str _ => "str"
  | .list _ => "list"
  | .tuple _ => "tuple"
  | .dict _ => "dict"
def isInt : PyData → Bool | .int _ => true | .bool _ => true | _ => false
def isBool : PyData → Bool | .bool _ => true | _ => false
def isList : PyData → Bool | .list _ => true | _ => false
def isTuple : PyData → Bool | .tuple _ => true | _ => false
def isStr : PyData → Bool | .str _ => true | _ => false
theorem kit_int (d : PyData) : kitB (tyN d) "int" = some (isInt d) := by cases d <;> kernel_rfl
theorem kit_bool (d : PyData) : kitB (tyN d) "bool" = some (isBool d) := by cases d <;> kernel_rfl
theorem kit_list (d : PyData) : kitB (tyN d) "list" = some (isList d) := by cases d <;> kernel_rfl
theorem kit_tuple (d : PyData) : kitB (tyN d) "tuple" = some (isTuple d) := by cases d <;> kernel_rfl
theorem kit_str (d : PyData) : kitB (tyN d) "str" = some (isStr d) := by cases d <;> kernel_rfl
theorem Dt.ty {K : PySem.W.Frag} {H : Hp} {v : V} {d : PyData} (h : Dt H v d) : TyX K H v (.type (tyN d)) := by
  cases h with
  | non => exact .base .non
  | bl b => exact .base (.bl b)
  | int i => exact .base (.int i)
  | str x => exact .base (.str x)
  | lst e _ => exact .base (.lst e)
  | tup e _ => exact .base (.tup e)
  | dic kvs e => exact .base (.dK e)
section
variable {X : Cx}
/-- isinstance(x, T) of data -/
def rIsD : List V → Hp → VK → Prop := fun xs H Q => ∃ (x : V) (d : PyData) (T : String) (b : Bool), xs = [x, .ty T] ∧ Dt H x d ∧ kitB (tyN d) T = some b ∧ Q (.bl b) H
theorem call_isD : CallR X (.builtin "isinstance") rIsD := by
  intro pins s σ H xs us Q I r h
  obtain ⟨x, d, T, b, rfl, hd, hk, q⟩ := h
  exact call_isi pins s σ H _ us Q I r ⟨x, .ty T, _, _, b, rfl, .ty T, hd.ty, kit_ty hk, q⟩
end
/-! ### sizes -/
structure Bnd (k b : Nat) (d : PyData) : Prop where
  ok : okD d = true
  deep : d.depth ≤ k
  small : d.bulk ≤ b
theorem Bnd.nice {k b : Nat} {d : PyData} (h : Bnd k b d) (hk : k ≤ 60) (hb : b ≤ 262144) : Nice d := ⟨h.ok, Nat.le_trans h.deep hk, Nat.le_trans h.small hb⟩
theorem Bnd.up {k b k' b' : Nat} {d : PyData} (h : Bnd k b d) (hk : k ≤ k') (hb : b ≤ b') : Bnd k' b' d := ⟨h.ok, Nat.le_trans h.deep hk, Nat.le_trans h.small hb⟩
theorem Bnd.non {k b : Nat} : Bnd k b .none := ⟨by simp only [okD], by simp only [PyData.depth]; omega, by simp only [PyData.bulk]; omega⟩
theorem Bnd.bl {k b : Nat} (x : Bool) : Bnd k b (.bool x) := ⟨by simp only [okD], by simp only [PyData.depth]; omega, by simp only [PyData.bulk]; omega⟩
theorem Bnd.int {k b : Nat} {i : Int} (h : i.natAbs < 10 ^ 38) : Bnd k b (.int i) := ⟨by simp only [okD, decide_eq_true_eq]; exact h, by simp only [PyData.depth]; omega, by simp only [PyData.bulk]; omega⟩
theorem okDs_of : ∀ l : List PyData, (∀ x ∈ l, okD x = true) → okDs l = true
  | [], _ => by simp only [okDs]
  | x :: r, h => by
    simp only [okDs, Bool.and_eq_true]
    exact ⟨h x (List.mem_cons_self ..), okDs_of r fun y hy => h y (List.mem_cons_of_mem _ hy)⟩
theorem okDs_mem : ∀ l : List PyData, okDs l = true → ∀ x ∈ l, okD x = true
  | [], _, x, hx => by cases hx
  | y :: r, h, x, hx => by
    have h' : okD y = true ∧ okDs r = true := by simpa only [okDs, Bool.and_eq_true] using h
    rcases List.mem_cons.mp hx with e | e
    · rw [e]; exact h'.1
    · exact okDs_mem r h'.2 x e
theorem depthAll_mem : ∀ l : List PyData, ∀ x ∈ l, x.depth ≤ PyData.depthAll l
  | [], x, hx => by cases hx
  | y :: r, x, hx => by
    simp only [PyData.depthAll]
    rcases List.mem_cons.mp hx with e | e
    · rw [e]; omega
    · have := depthAll_mem r x e
      omega
theorem bulkAll_mem : ∀ l : List PyData, ∀ x ∈ l, x.bulk ≤ PyData.bulkAll l
  | [], x, hx => by cases hx
  | y :: r, x, hx => by
    simp only [PyData.bulkAll]
    rcases List.mem_cons.mp hx with e | e
    · rw [e]; omega
    · have := bulkAll_mem r x e
      omega
theorem Bnd.list {k b n c : Nat} {ds : List PyData} (h : ∀ x ∈ ds, Bnd k b x) (hl : ds.length ≤ n) (hc : n * (b + 1) ≤ c) : Bnd (k + 1) c (.list ds) := by
  refine ⟨?_, ?_, ?_⟩
  · simp only [okD]
    exact okDs_of ds fun x hx => (h x hx).ok
  · have := depthAll_le (n := k) ds fun x hx => (h x hx).deep
    simp only [PyData.depth]; omega
  · have := bulkAll_le (n := b) ds fun x hx => (h x hx).small
    have := Nat.mul_le_mul_right (b + 1) hl
    simp only [PyData.bulk]; omega
theorem Bnd.tuple {k b n c : Nat} {ds : List PyData} (h : ∀ x ∈ ds, Bnd k b x) (hl : ds.length ≤ n) (hc : n * (b + 1) ≤ c) : Bnd (k + 1) c (.tuple ds) := by
  refine ⟨?_, ?_, ?_⟩
  · simp only [okD]
    exact okDs_of ds fun x hx => (h x hx).ok
  · have := depthAll_le (n := k) ds fun x hx => (h x hx).deep
    simp only [PyData.depth]; omega
  · have := bulkAll_le (n := b) ds fun x hx => (h x hx).small
    have := Nat.mul_le_mul_right (b + 1) hl
    simp only [PyData.bulk]; omega
theorem Nice.listMem {ds : List PyData} (h : Nice (.list ds)) : ∀ x ∈ ds, Nice x := fun x hx => by
  obtain ⟨a, b, c⟩ := h
  have a' : okDs ds = true := by simpa only [okD] using a
  have e1 := depthAll_mem ds x hx
  have e2 := bulkAll_mem ds x hx
  simp only [PyData.depth] at b
  simp only [PyData.bulk] at c
  exact ⟨okDs_mem ds a' x hx, by omega, by omega⟩
theorem Nice.tupMem {ds : List PyData} (h : Nice (.tuple ds)) : ∀ x ∈ ds, Nice x := fun x hx => by
  obtain ⟨a, b, c⟩ := h
  have a' : okDs ds = true := by simpa only [okD] using a
  have e1 := depthAll_mem ds x hx
  have e2 := bulkAll_mem ds x hx
  simp only [PyData.depth] at b
  simp only [PyData.bulk] at c
  exact ⟨okDs_mem ds a' x hx, by omega, by omega⟩
end Hw
namespace Hw
open PySem PySem.Spec PyProof.Rows L2
/-- a turn of a comprehension: the list so far is f 0, .., f (i - 1) -/
theorem lcS {H1 H' : Hp} {D : Addr} {f : Nat → V} {i : Nat} (hD : H1 D = none) (s : Same H1 H') (e : H' D = some (.lst ((List.range i).map f))) (hz : i ≤ 1000000) :
    ∃ acc, H' D = some (.lst acc) ∧ acc.length < sizeLine ∧ Same H1 (upd H' D (.lst (acc ++ [f i]))) ∧ (upd H' D (.lst (acc ++ [f i]))) D = some (.lst ((List.range (i + 1)).map f)) := by
  refine ⟨_, e, ?_, fun b o hb => ?_, ?_⟩
  · rw [List.length_map, List.length_range, sizeLine_eq]; omega
  · rw [upd_ne (ne_of_none hb hD)]
    exact s b o hb
  · rw [upd_same, List.range_succ, List.map_append]
    rfl
theorem range_get {α : Type} (l : List α) (f : α → V) (g : Nat → V) (h : ∀ i x, l[i]? = some x → g i = f x) : (List.range l.length).map g = l.map f := by
  apply List.ext_getElem?
  intro i
  rw [List.getElem?_map, List.getElem?_map]
  by_cases hi : i < l.length
  · rw [List.getElem?_range hi, List.getElem?_eq_getElem hi]
    exact congrArg some (h i _ (List.getElem?_eq_getElem hi))
  · rw [List.getElem?_eq_none (by rw [List.length_range]; omega), List.getElem?_eq_none (by omega)]
    rfl
/-- the same, told of the list's members -/
theorem range_mem {α : Type} {xs : List V} {l : List α} (f : α → V) (g : Nat → V) (hl : xs.length = l.length) (h : ∀ i x, l[i]? = some x → g i = f x) : (List.range xs.length).map g = l.map f := by
  rw [hl]
  exact range_get l f g h
end Hw
namespace Hw
open PySem PySem.Spec PyProof.Rows L2
/-- the answer about the member at i -/
def atF {α : Type} (l : List α) (g : α → Bool) (i : Nat) : Bool := match l[i]? with
  | some y => g y
  | none => false
theorem atF_at {α : Type} {l : List α} {g : α → Bool} {i : Nat} {y : α} (h : l[i]? = some y) : atF l g i = g y := by
  unfold atF
  rw [h]
theorem all_atF {α : Type} (l : List α) (g : α → Bool) : ((List.range l.length).map (atF l g)).all id = l.all g := by
  rw [Bool.eq_iff_iff, List.all_eq_true, List.all_eq_true]
  constructor
  · intro h y hy
    obtain ⟨i, hi, e⟩ := List.getElem_of_mem hy
    have h2 := h (atF l g i) (List.mem_map.mpr ⟨i, List.mem_range.mpr hi, rfl⟩)
    rw [atF_at (List.getElem?_eq_getElem hi), e] at h2
    exact h2
  · intro h b hb
    obtain ⟨i, hi, rfl⟩ := List.mem_map.mp hb
    have hi := List.mem_range.mp hi
    rw [atF_at (List.getElem?_eq_getElem hi)]
    exact h _ (List.getElem_mem hi)
theorem vi {a b : Int} : decide (V.int a = V.int b) = decide (a = b) := by
  by_cases h : a = b
  · rw [h, decide_eq_true rfl, decide_eq_true rfl]
  · rw [decide_eq_false h, decide_eq_false fun z => h (by cases z; rfl)]
theorem vs_eq {a b : Str} : decide (V.str a = V.str b) = decide (a = b) := by
  by_cases h : a = b
  · rw [h, decide_eq_true rfl, decide_eq_true rfl]
  · rw [decide_eq_false h, decide_eq_false fun z => h (by cases z; rfl)]
theorem shaped_list {fs : List PyData} (h : ∀ x ∈ fs, Nice x) : SeqAt.shaped (.list fs) = true := by
  have h1 : PyData.canLayAll0 fs = true := (okDs_all fs (okDs_of fs fun x hx => (h x hx).ok)).1
  have h2 := depthAll_le (n := 60) fs fun x hx => (h x hx).deep
  have h3 : PyData.canLay0 (.list fs) = true := by simp only [PyData.canLay0]; exact h1
  have h4 : PyData.depth (.list fs) ≤ 64 := by simp only [PyData.depth]; omega
  show (PyData.canLay0 (.list fs) && decide (PyData.depth (.list fs) ≤ 64)) = true
  rw [h3, decide_eq_true h4]
  rfl
theorem eqv_nil (fs : List PyData) : PyData.eqv (.list fs) (.list []) = fs.isEmpty := by cases fs <;> simp [PyData.eqv, PyData.eqvAll]
theorem shaped_nil : SeqAt.shaped (.list []) = true := shaped_list fun x hx => nomatch hx
end Hw

/-! ### the rules with the written part named -/
namespace Hw
open PySem PySem.Spec PyProof.Rows L2
section
variable {X : Cx} {K : PySem.W.Frag}
def rLenK (K : PySem.W.Frag) : List V → Hp → VK → Prop := fun xs H Q => ∃ p ys, xs = [.ref p] ∧ (SqL K H p ys ∨ SqT K H p ys) ∧ Q (.int ys.length) H
theorem call_lenK (h : X.K = K) : CallR X (.builtin "len") (rLenK K) := by subst h; exact call_len_seq
theorem cr_allK (h : X.K = K) (hc : X.calm = true) : CallR X (.builtin "all") (rAll K) := by subst h; exact cr_all hc
theorem cr_sumK (h : X.K = K) (hc : X.calm = true) : CallR X (.builtin "sum") (rSum K) := by subst h; exact cr_sum hc
def rListK (K : PySem.W.Frag) : List V → Hp → VK → Prop := fun xs H Q => ∃ p ys, xs = [.ref p] ∧ (SqL K H p ys ∨ SqT K H p ys) ∧ ∀ l, H l = none → Q (.ref l) (upd H l (.lst ys))
theorem call_listK (h : X.K = K) : CallR X (.type "list") (rListK K) := by subst h; exact call_list_of
def rTupK (K : PySem.W.Frag) : List V → Hp → VK → Prop := fun xs H Q => ∃ p ys, xs = [.ref p] ∧ ((SqL K H p ys ∧ ∀ l, H l = none → Q (.ref l) (upd H l (.tup ys))) ∨ (SqT K H p ys ∧ Q (.ref p) H))
theorem call_tupK (h : X.K = K) : CallR X (.type "tuple") (rTupK K) := by subst h; exact call_tuple_of
theorem ix_listK (h : X.K = K) : IxR X (rIxL K) := by subst h; exact ix_list
theorem ix_tupK (h : X.K = K) : IxR X (rIxT K) := by subst h; exact ix_tup
theorem sl_listK (h : X.K = K) : SlR X (rSlL K) := by subst h; exact sl_list
theorem sl_tupK (h : X.K = K) : SlR X (rSlA K) := by subst h; exact sl_tupA
end
end Hw
namespace Hw
open PySem PySem.Spec PyProof.Rows L2
/-! ### the heap but for one place -/
def off (a : Addr) (H : Hp) : Hp := fun b => if b = a then none else H b
theorem off_ne {a b : Addr} {H : Hp} (h : b ≠ a) : off a H b = H b := if_neg h
theorem off_at {a b : Addr} {H : Hp} {o : HO} (h : off a H b = some o) : b ≠ a ∧ H b = some o := by
  unfold off at h
  by_cases e : b = a
  · rw [if_pos e] at h; cases h
  · rw [if_neg e] at h; exact ⟨e, h⟩
theorem off_same {a : Addr} {H : Hp} : Same (off a H) H := fun _ _ h => (off_at h).2
theorem SameX.off {a : Addr} {H H' : Hp} (e : SameX a H H') : Same (off a H) (off a H') := fun b o h => by
  obtain ⟨n, h⟩ := off_at h
  rw [off_ne n]
  exact e b o n h
theorem off_of {a b : Addr} {H : Hp} {o : HO} (n : b ≠ a) (h : H b = some o) : off a H b = some o := by rw [off_ne n]; exact h
theorem Dt.on {a : Addr} {H : Hp} {v : V} {d : PyData} (h : Dt (off a H) v d) : Dt H v d := h.to off_same
/-! ### lists of numbers -/
abbrev natV (l : List Nat) : List V := l.map fun (x : Nat) => V.int (x : Int)
abbrev natD (l : List Nat) : List PyData := l.map fun (x : Nat) => PyData.int (x : Int)
theorem DtAll.nats {H : Hp} : ∀ l : List Nat, DtAll H (natV l) (natD l)
  | [] => .nil
  | x :: r => .cons (.int x) (DtAll.nats r)
theorem DtAll.nats_inv {H : Hp} : ∀ (l : List Nat) (vs : List V), DtAll H vs (natD l) → vs = natV l
  | [], _, h => by cases h; rfl
  | x :: r, _, h => by
    cases h with
    | cons h1 h2 =>
      cases h1
      rw [DtAll.nats_inv r _ h2]
      rfl
theorem DtAll.bls_inv {H : Hp} : ∀ (l : List Bool) (vs : List V), DtAll H vs (l.map PyData.bool) → vs = l.map V.bl
  | [], _, h => by cases h; rfl
  | x :: r, _, h => by
    cases h with
    | cons h1 h2 =>
      cases h1
      rw [DtAll.bls_inv r _ h2]
      rfl
theorem Dt.nats {H : Hp} {a : Addr} {l : List Nat} (h : H a = some (.lst (natV l))) : Dt H (.ref a) (.list (natD l)) := .lst h (DtAll.nats l)
theorem nat_get {l : List Nat} {i : Nat} {x : V} (h : (natV l)[i]? = some x) : ∃ b : Nat, l[i]? = some b ∧ V.int (b : Int) = x := by
  rw [List.getElem?_map] at h
  exact Option.map_eq_some_iff.mp h
theorem nat_at {l : List Nat} {i b : Nat} (h : l[i]? = some b) : (natV l)[i]? = some (V.int (b : Int)) := by
  rw [List.getElem?_map, h]
  rfl
theorem Bnd.nats {l : List Nat} {n c : Nat} (h : ∀ x ∈ l, x < 10 ^ 38) (hl : l.length ≤ n) (hc : n ≤ c) : Bnd 1 c (.list (natD l)) := by
  refine Bnd.list (k := 0) (b := 0) (n := n) (fun d hd => ?_) (by rw [List.length_map]; exact hl) (by omega)
  obtain ⟨x, hx, rfl⟩ := List.mem_map.mp hd
  exact .int (by have := h x hx; omega)
/-! ### bits in columns -/
def bitN (x p : Nat) : Nat := x / 2 ^ p % 2
def worthN : List Nat → Nat
  | [] => 0
  | b :: r => b + 2 * worthN r
theorem worthN_add : ∀ (l : List Nat) (b : Nat), worthN (l ++ [b]) = worthN l + b * 2 ^ l.length
  | [], b => by show b + 2 * 0 = 0 + b * 1; omega
  | c :: r, b => by
    show c + 2 * worthN (r ++ [b]) = c + 2 * worthN r + b * 2 ^ (r.length + 1)
    rw [worthN_add r b, Nat.pow_succ, Nat.mul_add, ← Nat.mul_assoc b, Nat.mul_comm _ 2]
    omega
theorem worthN_lt : ∀ l : List Nat, (∀ b ∈ l, b < 2) → worthN l < 2 ^ l.length
  | [], _ => by show 0 < 1; omega
  | c :: r, h => by
    have h1 := h c (List.mem_cons_self ..)
    have h2 := worthN_lt r fun b hb => h b (List.mem_cons_of_mem _ hb)
    show c + 2 * worthN r < 2 ^ (r.length + 1)
    rw [Nat.pow_succ]
    omega
theorem bitN_lt (x p : Nat) : bitN x p < 2 := Nat.mod_lt _ (by decide)
theorem bitN_worth : ∀ (l : List Nat) (i : Nat), (∀ b ∈ l, b < 2) → bitN (worthN l) i = l.getD i 0
  | [], i, _ => by
    show 0 / 2 ^ i % 2 = ([] : List Nat).getD i 0
    rw [Nat.zero_div]
    rfl
  | c :: r, 0, h => by
    have h1 := h c (List.mem_cons_self ..)
    show (c + 2 * worthN r) / 2 ^ 0 % 2 = c
    rw [Nat.pow_zero, Nat.div_one]
    omega
  | c :: r, i + 1, h => by
    have h1 := h c (List.mem_cons_self ..)
    have ih := bitN_worth r i fun b hb => h b (List.mem_cons_of_mem _ hb)
    show (c + 2 * worthN r) / 2 ^ (i + 1) % 2 = r.getD i 0
    rw [Nat.pow_succ, Nat.mul_comm (2 ^ i) 2, ← Nat.div_div_eq_div_mul, show (c + 2 * worthN r) / 2 = worthN r by omega]
    exact ih
theorem worthN_bits (x : Nat) : ∀ n : Nat, worthN ((List.range n).map (bitN x)) = x % 2 ^ n
  | 0 => by rw [Nat.pow_zero, Nat.mod_one]; rfl
  | n + 1 => by
    rw [List.range_succ, List.map_append, List.map_cons, List.map_nil, worthN_add, worthN_bits x n, List.length_map, List.length_range, Nat.mod_pow_succ, Nat.mul_comm]; rfl
/-- the p-th bits of all -/
def col (l : List Nat) (p : Nat) : Nat := worthN (l.map fun x => bitN x p)
def tr (n : Nat) (l : List Nat) : List Nat := (List.range n).map (col l)
theorem col_bits (l : List Nat) (p : Nat) : ∀ b ∈ l.map fun x => bitN x p, b < 2 := fun b hb => by
  obtain ⟨x, _, rfl⟩ := List.mem_map.mp hb
  exact bitN_lt x p
theorem col_lt (l : List Nat) (p : Nat) : col l p < 2 ^ l.length := by
  have := worthN_lt _ (col_bits l p)
  rw [List.length_map] at this
  exact this
theorem tr_len (n : Nat) (l : List Nat) : (tr n l).length = n := by unfold tr; rw [List.length_map, List.length_range]
theorem tr_lt {n : Nat} {l : List Nat} : ∀ x ∈ tr n l, x < 2 ^ l.length := fun x hx => by
  obtain ⟨p, _, rfl⟩ := List.mem_map.mp hx
  exact col_lt l p
theorem tr_tr {n : Nat} {l : List Nat} (h : ∀ x ∈ l, x < 2 ^ n) : tr l.length (tr n l) = l := by
  apply List.ext_getElem?
  intro i
  unfold tr
  rw [List.getElem?_map]
  by_cases hi : i < l.length
  · rw [List.getElem?_range hi, List.getElem?_eq_getElem hi]
    show some (col ((List.range n).map (col l)) i) = some l[i]
    unfold col
    rw [List.map_map]
    have e : (List.range n).map ((fun x => bitN x i) ∘ fun p => worthN (l.map fun x => bitN x p)) = (List.range n).map (bitN l[i]) := by
      apply List.map_congr_left
      intro p _
      show bitN (worthN (l.map fun x => bitN x p)) i = bitN l[i] p
      rw [bitN_worth _ _ (col_bits l p), List.getD_eq_getElem?_getD, List.getElem?_map, List.getElem?_eq_getElem hi]
      rfl
    rw [e, worthN_bits, Nat.mod_eq_of_lt (h _ (List.getElem_mem hi))]
  · rw [List.getElem?_eq_none (by rw [List.length_range]; omega), List.getElem?_eq_none (by omega)]
    rfl
theorem col_take {l : List Nat} {i x : Nat} (p : Nat) (h : l[i]? = some x) : col (l.take (i + 1)) p = col (l.take i) p + bitN x p * 2 ^ i := by
  unfold col
  have hi : i < l.length := (List.getElem?_eq_some_iff.mp h).1
  rw [List.take_add_one, h, List.map_append]
  show worthN (_ ++ [bitN x p]) = _
  rw [worthN_add, List.length_map, List.length_take, Nat.min_eq_left (by omega)]
/-! ### tables -/
structure Tb where
  many : Nat
  steps : List (List Nat)
  ends : List Bool
def Tb.d (t : Tb) : PyData := .tuple [.int (t.many : Int), .list (t.steps.map fun l => .list (natD l)), .list (t.ends.map .bool)]
structure Tb.Good (t : Tb) : Prop where
  many : t.many ≤ 6
  some : 0 < t.steps.length
  same : t.ends.length = t.steps.length
  line : ∀ l ∈ t.steps, l.length = 2 ^ t.many
  stand : ∀ l ∈ t.steps, ∀ x ∈ l, x < t.steps.length
def Tb.next (t : Tb) (s c : Nat) : Nat := (t.steps.getD s []).getD c 0
def Tb.behind (t : Tb) (l : List Nat) : Nat := l.foldl t.next 0
theorem Tb.Good.next {t : Tb} (g : t.Good) {s c : Nat} (hs : s < t.steps.length) (hc : c < 2 ^ t.many) : ∃ l, t.steps[s]? = Option.some l ∧ l[c]? = Option.some (t.next s c) ∧ t.next s c < t.steps.length := by
  have e := List.getElem?_eq_getElem hs
  have hl := g.line _ (List.getElem_mem hs)
  have hc' : c < (t.steps[s]).length := by omega
  have e2 := List.getElem?_eq_getElem hc'
  have en : t.next s c = t.steps[s][c] := by
    unfold Tb.next
    rw [List.getD_eq_getElem?_getD, List.getD_eq_getElem?_getD, e, Option.getD_some, e2]
    rfl
  exact ⟨_, e, by rw [en]; exact e2, by rw [en]; exact g.stand _ (List.getElem_mem hs) _ (List.getElem_mem hc')⟩
theorem Tb.Good.behind {t : Tb} (g : t.Good) : ∀ (l : List Nat) (s : Nat), s < t.steps.length → (∀ x ∈ l, x < 2 ^ t.many) → l.foldl t.next s < t.steps.length
  | [], s, hs, _ => hs
  | c :: r, s, hs, h => by
    obtain ⟨_, _, _, h3⟩ := g.next hs (h c (List.mem_cons_self ..))
    exact g.behind r _ h3 fun x hx => h x (List.mem_cons_of_mem _ hx)
theorem Tb.behind_take {t : Tb} {l : List Nat} {i c : Nat} (h : l[i]? = some c) : t.behind (l.take (i + 1)) = t.next (t.behind (l.take i)) c := by
  unfold Tb.behind
  rw [List.take_add_one, h, List.foldl_append]
  rfl
/-- where the table's parts stand -/
theorem Dt.tab {H : Hp} {x : V} {t : Tb} (h : Dt H x t.d) : ∃ (a b c : Addr) (ys : List V), x = .ref a ∧ H a = some (.tup [.int (t.many : Int), .ref b, .ref c]) ∧ H b = some (.lst ys) ∧ ys.length = t.steps.length ∧
    (∀ (i : Nat) (l : List Nat), t.steps[i]? = some l → ∃ r : Addr, ys[i]? = some (V.ref r) ∧ H r = some (.lst (natV l))) ∧ H c = some (.lst (t.ends.map V.bl)) ∧ DtAll H ys (t.steps.map fun l => .list (natD l)) := by
  unfold Tb.d at h
  cases h with
  | @tup a xs ds ha hs =>
  cases hs with
  | cons hm hs =>
  cases hs with
  | cons hst hs =>
  cases hs with
  | cons hen hs =>
  cases hs with
  | nil =>
  cases hm
  cases hst with
  | @lst b ys ss hb hss =>
  cases hen with
  | @lst c zs es hc hes =>
  have e := DtAll.bls_inv _ _ hes
  subst e
  have hl : ys.length = t.steps.length := by rw [hss.len, List.length_map]
  refine ⟨a, b, c, ys, rfl, ha, hb, hl, fun i l hi => ?_, hc, hss⟩
  have il : i < ys.length := by rw [hl]; exact (List.getElem?_eq_some_iff.mp hi).1
  obtain ⟨d, hd, hy⟩ := hss.get i _ (List.getElem?_eq_getElem il)
  rw [List.getElem?_map, hi] at hd
  cases hd
  generalize hz : ys[i] = z at hy
  cases hy with
  | @lst r qs _ hr hq =>
    have e := DtAll.nats_inv _ _ hq
    subst e
    exact ⟨r, by rw [List.getElem?_eq_getElem il, hz], hr⟩
end Hw
namespace Hw
open PySem PySem.Spec PyProof.Rows L2
/-! ### a comprehension with a test -/
def Flt (ds : List PyData) (p : PyData → Bool) (H1 : Hp) (D : Addr) (i : Nat) (H' : Hp) : Prop := Same H1 H' ∧ ∃ vs, H' D = some (.lst vs) ∧ DtAll H1 vs ((ds.take i).filter p) ∧ vs.length ≤ i
theorem Flt.start {ds : List PyData} {p : PyData → Bool} {H1 : Hp} {D : Addr} (hD : H1 D = none) : Flt ds p H1 D 0 (upd H1 D (.lst [])) := ⟨same_new' hD, [], upd_same, .nil, Nat.le_refl _⟩
theorem Flt.keep {ds : List PyData} {p : PyData → Bool} {H1 H' : Hp} {D : Addr} {i : Nat} {d : PyData} {y : V} (f : Flt ds p H1 D i H') (hD : H1 D = none) (hi : ds[i]? = some d) (hp : p d = true) (hy : Dt H1 y d) (hz : i ≤ 1000000) :
    ∃ acc, H' D = some (.lst acc) ∧ acc.length < sizeLine ∧ Flt ds p H1 D (i + 1) (upd H' D (.lst (acc ++ [y]))) := by
  obtain ⟨s, vs, e, hv, hl⟩ := f
  refine ⟨vs, e, by rw [sizeLine_eq]; omega, fun b o hb => ?_, vs ++ [y], upd_same, ?_, by rw [List.length_append]; show vs.length + 1 ≤ i + 1; omega⟩
  · rw [upd_ne (ne_of_none hb hD)]
    exact s b o hb
  · rw [List.take_add_one, hi, List.filter_append]
    refine hv.app ?_
    show DtAll H1 [y] (List.filter p [d])
    rw [List.filter_cons_of_pos hp]
    exact .cons hy .nil
theorem Flt.skip {ds : List PyData} {p : PyData → Bool} {H1 H' : Hp} {D : Addr} {i : Nat} {d : PyData} (f : Flt ds p H1 D i H') (hi : ds[i]? = some d) (hp : p d = false) : Flt ds p H1 D (i + 1) H' := by
  obtain ⟨s, vs, e, hv, hl⟩ := f
  refine ⟨s, vs, e, ?_, by omega⟩
  rw [List.take_add_one, hi, List.filter_append]
  show DtAll H1 vs (_ ++ List.filter p [d])
  rw [List.filter_cons_of_neg (by rw [hp]; exact Bool.false_ne_true), List.filter_nil, List.append_nil]
  exact hv
theorem Flt.done {ds : List PyData} {p : PyData → Bool} {H1 H' : Hp} {D : Addr} {n : Nat} (f : Flt ds p H1 D n H') (hn : n = ds.length) : Same H1 H' ∧ Dt H' (.ref D) (.list (ds.filter p)) := by
  obtain ⟨s, vs, e, hv, hl⟩ := f
  subst hn
  rw [List.take_length] at hv
  exact ⟨s, .lst e (hv.to s)⟩
theorem filter_none {α : Type} (p : α → Bool) : ∀ l : List α, (l.filter fun x => !p x).isEmpty = l.all p
  | [] => rfl
  | x :: r => by
    rw [List.all_cons, ← filter_none p r]
    cases h : p x with
    | true => rw [List.filter_cons_of_neg (by rw [h]; exact Bool.false_ne_true)]; rfl
    | false => rw [List.filter_cons_of_pos (by rw [h]; rfl)]; rfl
/-- .. != [] of such a list -/
theorem ne_nil {H' : Hp} {E : Addr} {x : V} {ds : List PyData} {p : PyData → Bool} {Q : VK} (hx : Dt H' x (.list (ds.filter p))) (hE : H' E = none) (nd : ∀ d ∈ ds, Nice d) (h : Q (.bl (!(ds.filter p).isEmpty)) (upd H' E (.lst []))) : rNeT x (.ref E) (upd H' E (.lst [])) Q := by
  refine ⟨_, .list [], hx.to (same_new' hE), .lst upd_same .nil, shaped_list fun d hd => nd d (List.mem_filter.mp hd).1, shaped_nil, ?_⟩
  rw [eqv_nil]
  exact h
end Hw

set_option Elab.async false
set_option linter.all false
set_option maxRecDepth 100000
set_option maxHeartbeats 4000000
/-! expressions that only lay new data: what they give, without their places -/
namespace Hw
open PySem PySem.Spec PyProof.Rows L2
/-- the heap without some places -/
def offs (l : List Addr) (H : Hp) : Hp := fun b => if b ∈ l then none else H b
theorem offs_at {l : List Addr} {b : Addr} {H : Hp} {o : HO} (h : offs l H b = some o) : b ∉ l ∧ H b = some o := by
  unfold offs at h
  by_cases e : b ∈ l
  · rw [if_pos e] at h; cases h
  · rw [if_neg e] at h; exact ⟨e, h⟩
theorem offs_of {l : List Addr} {b : Addr} {H : Hp} {o : HO} (n : b ∉ l) (h : H b = some o) : offs l H b = some o := by
  unfold offs
  rw [if_neg n]
  exact h
theorem offs_same {l : List Addr} {H : Hp} : Same (offs l H) H := fun _ _ h => (offs_at h).2
theorem offs_mono {l : List Addr} {H H' : Hp} (e : Same H H') : Same (offs l H) (offs l H') := fun b o h => by
  obtain ⟨n, h⟩ := offs_at h
  exact offs_of n (e b o h)
theorem offs_one {a : Addr} {H : Hp} : off a H = offs [a] H := by
  funext b
  unfold off offs
  by_cases h : b = a
  · rw [if_pos h, if_pos (by rw [h]; exact List.mem_singleton.mpr rfl)]
  · rw [if_neg h, if_neg fun z => h (List.mem_singleton.mp z)]
/-- a write at a hidden place -/
theorem offs_upd {l : List Addr} {F : Addr} {H : Hp} {o : HO} (h : F ∈ l) : offs l (upd H F o) = offs l H := by
  funext b
  unfold offs
  by_cases e : b ∈ l
  · rw [if_pos e, if_pos e]
  · rw [if_neg e, if_neg e, upd_ne fun z => e (by rw [z]; exact h)]
/-- what the work rests on: it stays while new things are laid -/
structure Stb (l : List Addr) (S : Hp → Prop) : Prop where
  keep : ∀ H H', S H → Same H H' → S H'
  new : ∀ H p, S H → H p = none → p ∉ l
abbrev Fi := V → Hp → Prop
def Ev (S : Hp → Prop) (φ : Fi) (te : TE) (σ : L2.St) : Prop := ∀ H Q, S H → (∀ x H', Same H H' → φ x H' → Q x H') → te σ H Q
def Eva (S : Hp → Prop) (Φ : List V → Hp → Prop) (ta : TA) (σ : L2.St) : Prop := ∀ H Q, S H → (∀ xs H', Same H H' → Φ xs H' → Q xs H') → ta σ H Q
def Evo (S : Hp → Prop) (to : TO) (σ : L2.St) : Prop := ∀ H (Q : Option Int → Hp → Prop), S H → (∀ x H', Same H H' → Q x H') → to σ H Q
/-- data; a list, a tuple of data; data one by one -/
def D (l : List Addr) (P : PyData → Prop) : Fi := fun x H => ∃ d, Dt (offs l H) x d ∧ P d
def LD (l : List Addr) (P : PyData → Prop) (n : Nat) : Fi := fun x H => ∃ p vs ds, x = .ref p ∧ offs l H p = some (.lst vs) ∧ DtAll (offs l H) vs ds ∧ (∀ d ∈ ds, P d) ∧ ds.length ≤ n
def TD (l : List Addr) (P : PyData → Prop) (n : Nat) : Fi := fun x H => ∃ p vs ds, x = .ref p ∧ offs l H p = some (.tup vs) ∧ DtAll (offs l H) vs ds ∧ (∀ d ∈ ds, P d) ∧ ds.length ≤ n
def AD (l : List Addr) (P : PyData → Prop) (n : Nat) : List V → Hp → Prop := fun xs H => ∃ ds, DtAll (offs l H) xs ds ∧ (∀ d ∈ ds, P d) ∧ ds.length ≤ n
section
variable {l : List Addr} {P : PyData → Prop} {k b n k' b' n' : Nat} {S : Hp → Prop} {σ : L2.St} {K : PySem.W.Frag}
theorem D.same {x : V} {H H' : Hp} (h : D l P x H) (e : Same H H') : D l P x H' := by
  obtain ⟨d, hd, hb⟩ := h
  exact ⟨d, hd.to (offs_mono e), hb⟩
theorem D.up {x : V} {H : Hp} (h : D l (Bnd k b) x H) (hk : k ≤ k') (hb : b ≤ b') : D l (Bnd k' b') x H := by
  obtain ⟨d, hd, h2⟩ := h
  exact ⟨d, hd, h2.up hk hb⟩
theorem LD.same {x : V} {H H' : Hp} (h : LD l P n x H) (e : Same H H') : LD l P n x H' := by
  obtain ⟨p, vs, ds, rfl, h1, h2, h3, h4⟩ := h
  exact ⟨p, vs, ds, rfl, offs_mono e _ _ h1, h2.to (offs_mono e), h3, h4⟩
theorem LD.d {x : V} {H : Hp} (h : LD l (Bnd k b) n x H) : D l (Bnd (k + 1) (n * (b + 1))) x H := by
  obtain ⟨p, vs, ds, rfl, h1, h2, h3, h4⟩ := h
  exact ⟨.list ds, .lst h1 h2, Bnd.list h3 h4 (Nat.le_refl _)⟩
theorem TD.d {x : V} {H : Hp} (h : TD l (Bnd k b) n x H) : D l (Bnd (k + 1) (n * (b + 1))) x H := by
  obtain ⟨p, vs, ds, rfl, h1, h2, h3, h4⟩ := h
  exact ⟨.tuple ds, .tup h1 h2, Bnd.tuple h3 h4 (Nat.le_refl _)⟩
theorem LD.up {x : V} {H : Hp} (h : LD l (Bnd k b) n x H) (hk : k ≤ k') (hb : b ≤ b') (hn : n ≤ n') : LD l (Bnd k' b') n' x H := by
  obtain ⟨p, vs, ds, rfl, h1, h2, h3, h4⟩ := h
  exact ⟨p, vs, ds, rfl, h1, h2, fun d hd => (h3 d hd).up hk hb, by omega⟩
theorem Ev.mono {φ ψ : Fi} {te : TE} (h : Ev S φ te σ) (m : ∀ x H, φ x H → ψ x H) : Ev S ψ te σ := fun H Q s q => h H Q s fun x H' e p => q x H' e (m x H' p)
theorem Ev.du {te : TE} (h : Ev S (D l (Bnd k b)) te σ) (hk : k ≤ k' := by decide) (hb : b ≤ b' := by decide) : Ev S (D l (Bnd k' b')) te σ := h.mono fun _ _ p => p.up hk hb
theorem Ev.ld {te : TE} (h : Ev S (LD l (Bnd k b) n) te σ) (hk : k + 1 ≤ k' := by decide) (hb : n * (b + 1) ≤ b' := by decide) : Ev S (D l (Bnd k' b')) te σ := h.mono fun _ _ p => p.d.up hk hb
theorem Ev.td {te : TE} (h : Ev S (TD l (Bnd k b) n) te σ) (hk : k + 1 ≤ k' := by decide) (hb : n * (b + 1) ≤ b' := by decide) : Ev S (D l (Bnd k' b')) te σ := h.mono fun _ _ p => p.d.up hk hb
theorem Ev.lu {te : TE} (h : Ev S (LD l (Bnd k b) n) te σ) (hk : k ≤ k' := by decide) (hb : b ≤ b' := by decide) (hn : n ≤ n' := by decide) : Ev S (LD l (Bnd k' b') n') te σ := h.mono fun _ _ p => p.up hk hb hn
/-! constants, names -/
theorem Ev.non : Ev S (D l (Bnd k b)) (tC .non) σ := fun H Q _ q => q _ H (Same.refl H) ⟨_, .non, .non⟩
theorem Ev.bl (x : Bool) : Ev S (D l (Bnd k b)) (tC (.bl x)) σ := fun H Q _ q => q _ H (Same.refl H) ⟨_, .bl x, .bl x⟩
theorem Ev.int (i : Int) (h : i.natAbs < 10 ^ 38 := by decide) : Ev S (D l (Bnd k b)) (tC (.int i)) σ := fun H Q _ q => q _ H (Same.refl H) ⟨_, .int i, .int h⟩
theorem Bnd.str {x : Str} (h : okD (.str x) = true) (hb : x.cps.size ≤ b) : Bnd k b (.str x) := ⟨h, by simp only [PyData.depth]; omega, by simp only [PyData.bulk]; omega⟩
theorem Ev.str (x : Str) (h : okD (.str x) = true := by decide +kernel) (hb : x.cps.size ≤ b := by decide +kernel) : Ev S (D l (Bnd k b)) (tC (.str x)) σ := fun H Q _ q => q _ H (Same.refl H) ⟨_, .str x, .str h hb⟩
theorem Ev.var {φ : Fi} {i : Nat} {x : V} (h : σ[i]? = some (some x)) (hx : ∀ H, S H → φ x H) : Ev S φ (tVar i) σ := fun H Q s q => ⟨x, h, q x H (Same.refl H) (hx H s)⟩
/-! lists, tuples -/
theorem Eva.nil : Eva S (AD l P 0) tNil σ := fun H Q _ q => q _ H (Same.refl H) ⟨[], .nil, (fun _ h => nomatch h), Nat.le_refl _⟩
theorem Eva.cons (st : Stb l S) {te : TE} {ta : TA} (h : Ev S (D l P) te σ) (r : Eva S (AD l P n) ta σ) : Eva S (AD l P (n + 1)) (tCons te ta) σ := fun H Q s q => by
  refine h H _ s fun x H1 e1 p1 => r H1 _ (st.keep _ _ s e1) fun xs H2 e2 p2 => q _ H2 (e1.trans e2) ?_
  obtain ⟨d, hd, hb⟩ := p1.same e2
  obtain ⟨ds, h1, h2, h3⟩ := p2
  exact ⟨d :: ds, .cons hd h1, fun y hy => by
    rcases List.mem_cons.mp hy with z | z
    · rw [z]; exact hb
    · exact h2 y z, by rw [List.length_cons]; omega⟩
theorem Ev.lst (st : Stb l S) {ta : TA} (h : Eva S (AD l P n) ta σ) (hn : n ≤ 100000 := by decide) : Ev S (LD l P n) (tLst ta) σ := fun H Q s q => by
  refine h H _ s fun xs H1 e1 p1 => ?_
  obtain ⟨ds, h1, h2, h3⟩ := p1
  refine ⟨by rw [h1.len, sizeLine_eq]; omega, fun p hp => ?_⟩
  have np := st.new H1 p (st.keep _ _ s e1) hp
  have e2 := same_new' (o := .lst xs) hp
  exact q _ _ (e1.trans e2) ⟨p, xs, ds, rfl, offs_of np upd_same, h1.to (offs_mono e2), h2, h3⟩
theorem Ev.tup (st : Stb l S) {ta : TA} (h : Eva S (AD l P n) ta σ) (hn : n ≤ 100000 := by decide) : Ev S (TD l P n) (tTup ta) σ := fun H Q s q => by
  refine h H _ s fun xs H1 e1 p1 => ?_
  obtain ⟨ds, h1, h2, h3⟩ := p1
  refine ⟨by rw [h1.len, sizeLine_eq]; omega, fun p hp => ?_⟩
  have np := st.new H1 p (st.keep _ _ s e1) hp
  have e2 := same_new' (o := .tup xs) hp
  exact q _ _ (e1.trans e2) ⟨p, xs, ds, rfl, offs_of np upd_same, h1.to (offs_mono e2), h2, h3⟩
theorem Ev.cat (st : Stb l S) {ta tb : TE} (h : Ev S (LD l P n) ta σ) (h' : Ev S (LD l P n') tb σ) (hn : n + n' ≤ 100000 := by decide) : Ev S (LD l P (n + n')) (tOp rCat ta tb) σ := fun H Q s q => by
  refine h H _ s fun x H1 e1 p1 => h' H1 _ (st.keep _ _ s e1) fun y H2 e2 p2 => ?_
  obtain ⟨p, vs, ds, rfl, a1, a2, a3, a4⟩ := p1.same e2
  obtain ⟨p', vs', ds', rfl, b1, b2, b3, b4⟩ := p2
  have h1 := a2.len
  have h2 := b2.len
  refine ⟨p, p', vs, vs', rfl, rfl, (offs_at a1).2, (offs_at b1).2, by rw [sizeLine_eq]; omega, fun r hr => ?_⟩
  have s2 := st.keep _ _ s (e1.trans e2)
  have nr := st.new H2 r s2 hr
  have e3 := same_new' (o := .lst (vs ++ vs')) hr
  exact q _ _ ((e1.trans e2).trans e3) ⟨r, _, ds ++ ds', rfl, offs_of nr upd_same, (a2.app b2).to (offs_mono e3), fun d hd => (List.mem_append.mp hd).elim (a3 d) (b3 d), by rw [List.length_append]; omega⟩
theorem Ev.catT (st : Stb l S) {ta tb : TE} (h : Ev S (TD l P n) ta σ) (h' : Ev S (TD l P n') tb σ) (hn : n + n' ≤ 100000 := by decide) : Ev S (TD l P (n + n')) (tOp (rCatA K) ta tb) σ := fun H Q s q => by
  refine h H _ s fun x H1 e1 p1 => h' H1 _ (st.keep _ _ s e1) fun y H2 e2 p2 => ?_
  obtain ⟨p, vs, ds, rfl, a1, a2, a3, a4⟩ := p1
  have a1 := offs_mono (l := l) e2 _ _ a1
  have a2 := a2.to (offs_mono e2)
  obtain ⟨p', vs', ds', rfl, b1, b2, b3, b4⟩ := p2
  have h1 := a2.len
  have h2 := b2.len
  refine ⟨p, p', vs, vs', rfl, rfl, .inl (.inl (offs_at a1).2), .inl (.inl (offs_at b1).2), by rw [sizeLine_eq]; omega, fun _ => ?_, fun _ _ => ?_, fun _ _ r hr => ?_⟩
  · exact q _ _ (e1.trans e2) ⟨p', vs', ds', rfl, b1, b2, b3, by omega⟩
  · exact q _ _ (e1.trans e2) ⟨p, vs, ds, rfl, a1, a2, a3, by omega⟩
  · have s2 := st.keep _ _ s (e1.trans e2)
    have nr := st.new H2 r s2 hr
    have e3 := same_new' (o := .tup (vs ++ vs')) hr
    exact q _ _ ((e1.trans e2).trans e3) ⟨r, _, ds ++ ds', rfl, offs_of nr upd_same, (a2.app b2).to (offs_mono e3), fun d hd => (List.mem_append.mp hd).elim (a3 d) (b3 d), by rw [List.length_append]; omega⟩
theorem DtAll.drop {H : Hp} : ∀ (i : Nat) {vs : List V} {ds : List PyData}, DtAll H vs ds → DtAll H (vs.drop i) (ds.drop i)
  | 0, _, _, h => h
  | _ + 1, _, _, .nil => .nil
  | i + 1, _, _, .cons _ r => DtAll.drop i r
theorem DtAll.take {H : Hp} : ∀ (i : Nat) {vs : List V} {ds : List PyData}, DtAll H vs ds → DtAll H (vs.take i) (ds.take i)
  | 0, _, _, _ => .nil
  | _ + 1, _, _, .nil => .nil
  | i + 1, _, _, .cons h r => .cons h (DtAll.take i r)
theorem cut_data {H : Hp} {vs : List V} {ds : List PyData} (h : DtAll H vs ds) (lo hi : Option Int) : ∃ es : List PyData, DtAll H (cutV vs lo hi) es ∧ (∀ d ∈ es, d ∈ ds) ∧ es.length ≤ ds.length := by
  unfold cutV
  refine ⟨_, DtAll.take _ (DtAll.drop _ h), fun d hd => List.mem_of_mem_drop (List.mem_of_mem_take hd), ?_⟩
  rw [List.length_take, List.length_drop]
  omega
theorem Ev.cut (st : Stb l S) {te : TE} {lo hi : TO} (h : Ev S (LD l P n) te σ) (h1 : Evo S lo σ) (h2 : Evo S hi σ) : Ev S (LD l P n) (L2.tSl (rSlL K) te lo hi) σ := fun H Q s q => by
  refine h H _ s fun x H1 e1 p1 => h1 H1 _ (st.keep _ _ s e1) fun i H2 e2 => h2 H2 _ (st.keep _ _ s (e1.trans e2)) fun j H3 e3 => ?_
  obtain ⟨p, vs, ds, rfl, a1, a2, a3, a4⟩ := p1.same (e2.trans e3)
  refine ⟨p, vs, rfl, .inl (.inl (offs_at a1).2), fun r hr => ?_⟩
  have e4 := e1.trans (e2.trans e3)
  have nr := st.new H3 r (st.keep _ _ s e4) hr
  have e5 := same_new' (o := .lst (cutV vs i j)) hr
  obtain ⟨es, c1, c2, c3⟩ := cut_data a2 i j
  exact q _ _ (e4.trans e5) ⟨r, _, es, rfl, offs_of nr upd_same, c1.to (offs_mono e5), fun d hd => a3 d (c2 d hd), by omega⟩
theorem Ev.cutT (st : Stb l S) {te : TE} {lo hi : TO} (h : Ev S (TD l P n) te σ) (h1 : Evo S lo σ) (h2 : Evo S hi σ) : Ev S (TD l P n) (L2.tSl (rSlA K) te lo hi) σ := fun H Q s q => by
  refine h H _ s fun x H1 e1 p1 => h1 H1 _ (st.keep _ _ s e1) fun i H2 e2 => h2 H2 _ (st.keep _ _ s (e1.trans e2)) fun j H3 e3 => ?_
  obtain ⟨p, vs, ds, rfl, a1, a2, a3, a4⟩ := p1
  have e23 := e2.trans e3
  have a1 := offs_mono (l := l) e23 _ _ a1
  have a2 := a2.to (offs_mono e23)
  have e4 := e1.trans (e2.trans e3)
  refine ⟨p, vs, rfl, .inl (.inl (offs_at a1).2), fun _ => q _ _ e4 ⟨p, vs, ds, rfl, a1, a2, a3, a4⟩, fun _ r hr => ?_⟩
  have nr := st.new H3 r (st.keep _ _ s e4) hr
  have e5 := same_new' (o := .tup (cutV vs i j)) hr
  obtain ⟨es, c1, c2, c3⟩ := cut_data a2 i j
  exact q _ _ (e4.trans e5) ⟨r, _, es, rfl, offs_of nr upd_same, c1.to (offs_mono e5), fun d hd => a3 d (c2 d hd), by omega⟩
theorem Evo.no : Evo S tNoPart σ := fun H Q _ q => q _ H (Same.refl H)
/-- an int -/
def I : Fi := fun x _ => ∃ i : Int, x = .int i
theorem Ev.intI (i : Int) : Ev S I (tC (.int i)) σ := fun H Q _ q => q _ H (Same.refl H) ⟨i, rfl⟩
theorem Ev.varI {i : Nat} {j : Int} (h : σ[i]? = some (some (.int j))) : Ev S I (tVar i) σ := fun H Q s q => ⟨_, h, q _ H (Same.refl H) ⟨j, rfl⟩⟩
theorem Evo.some {te : TE} (h : Ev S I te σ) : Evo S (tPart te) σ := fun H Q s q => h H _ s fun x H1 e1 p => by
  obtain ⟨i, rfl⟩ := p
  exact ⟨i, rfl, q _ H1 e1⟩
theorem Ev.listL (st : Stb l S) {te : TE} (h : Ev S (LD l P n) te σ) : Ev S (LD l P n) (tCB (rListK K) (tCons te tNil)) σ := fun H Q s q => by
  refine h H _ s fun x H1 e1 p1 => ?_
  obtain ⟨p, vs, ds, rfl, a1, a2, a3, a4⟩ := p1
  refine ⟨p, vs, rfl, .inl (.inl (.inl (offs_at a1).2)), fun r hr => ?_⟩
  have nr := st.new H1 r (st.keep _ _ s e1) hr
  have e5 := same_new' (o := .lst vs) hr
  exact q _ _ (e1.trans e5) ⟨r, _, ds, rfl, offs_of nr upd_same, a2.to (offs_mono e5), a3, a4⟩
theorem Ev.listT (st : Stb l S) {te : TE} (h : Ev S (TD l P n) te σ) : Ev S (LD l P n) (tCB (rListK K) (tCons te tNil)) σ := fun H Q s q => by
  refine h H _ s fun x H1 e1 p1 => ?_
  obtain ⟨p, vs, ds, rfl, a1, a2, a3, a4⟩ := p1
  refine ⟨p, vs, rfl, .inr (.inl (.inl (offs_at a1).2)), fun r hr => ?_⟩
  have nr := st.new H1 r (st.keep _ _ s e1) hr
  have e5 := same_new' (o := .lst vs) hr
  exact q _ _ (e1.trans e5) ⟨r, _, ds, rfl, offs_of nr upd_same, a2.to (offs_mono e5), a3, a4⟩
theorem Ev.tupL (st : Stb l S) {te : TE} (h : Ev S (LD l P n) te σ) : Ev S (TD l P n) (tCB (rTupK K) (tCons te tNil)) σ := fun H Q s q => by
  refine h H _ s fun x H1 e1 p1 => ?_
  obtain ⟨p, vs, ds, rfl, a1, a2, a3, a4⟩ := p1
  refine ⟨p, vs, rfl, .inl ⟨.inl (.inl (offs_at a1).2), fun r hr => ?_⟩⟩
  have nr := st.new H1 r (st.keep _ _ s e1) hr
  have e5 := same_new' (o := .tup vs) hr
  exact q _ _ (e1.trans e5) ⟨r, _, ds, rfl, offs_of nr upd_same, a2.to (offs_mono e5), a3, a4⟩
theorem Ev.len {te : TE} (h : Ev S (LD l (Bnd k b) n) te σ) (hn : n ≤ 100000 := by decide) : Ev S (D l (Bnd k' b')) (tCB (rLenK K) (tCons te tNil)) σ := fun H Q s q => by
  refine h H _ s fun x H1 e1 p1 => ?_
  obtain ⟨p, vs, ds, rfl, a1, a2, a3, a4⟩ := p1
  have := a2.len
  exact ⟨p, vs, rfl, .inl (.inl (.inl (offs_at a1).2)), q _ _ e1 ⟨_, .int _, .int (by omega)⟩⟩
theorem Ev.rep (st : Stb l S) {ta : TE} {j : Nat} (h : Ev S (LD l P n) ta σ) (hj : n * j ≤ 100000 := by decide) (hj2 : j ≤ 1000 := by decide) : Ev S (LD l P (n * j)) (tOp rRep ta (tC (.int (j : Int)))) σ := fun H Q s q => by
  refine h H _ s fun x H1 e1 p1 => ?_
  obtain ⟨p, vs, ds, rfl, a1, a2, a3, a4⟩ := p1
  have hl := a2.len
  have hm : ds.length * j ≤ n * j := Nat.mul_le_mul_right j a4
  refine ⟨p, j, vs, rfl, rfl, (offs_at a1).2, by omega, by omega, by rw [hl, Int.toNat_natCast, sizeLine_eq]; omega, fun r hr => ?_⟩
  have nr := st.new H1 r (st.keep _ _ s e1) hr
  have e5 := same_new' (o := .lst (List.replicate (j : Int).toNat vs).flatten) hr
  have key : ∀ m : Nat, DtAll (offs l H1) (List.replicate m vs).flatten (List.replicate m ds).flatten := by
    intro m
    induction m with
    | zero => exact .nil
    | succ m ih =>
      rw [List.replicate_succ, List.replicate_succ, List.flatten_cons, List.flatten_cons]
      exact a2.app ih
  refine q _ _ (e1.trans e5) ⟨r, _, (List.replicate j ds).flatten, rfl, offs_of nr upd_same, ?_, fun d hd => ?_, ?_⟩
  · rw [Int.toNat_natCast]
    exact (key j).to (offs_mono (by rw [Int.toNat_natCast] at e5; exact e5))
  · obtain ⟨m, hm1, hm2⟩ := List.mem_flatten.mp hd
    rw [List.eq_of_mem_replicate hm1] at hm2
    exact a3 d hm2
  · rw [List.length_flatten, List.map_replicate, List.sum_replicate_nat, Nat.mul_comm]
    exact hm
end
end Hw
namespace Hw
open PySem PySem.Spec PyProof.Rows L2
/-! ### statements, read one by one -/
def iAt (J : It) : TI := fun _ H R => R J H
section
variable {K : PySem.W.Frag} {te : TE} {g : TG} {tb t u : TS} {d : Ends} {σ : L2.St} {H : Hp} {i : Nat}
theorem forL (h : te σ H fun x H1 => ∃ a, x = .ref a ∧ (∃ xs, SqL K H1 a xs) ∧ tFor (iAt (Itl K a)) g tb d σ H1) : tFor (iList K te) g tb d σ H := h
theorem seqL (h : t { d with nx := u d } σ H) : tSeq t u d σ H := h
theorem setL (h : te σ H fun x H1 => d.nx (σ.set i (some x)) H1) : tAsg te (gName i) d σ H := h
theorem setNil (h : ∀ p, H p = none → d.nx (σ.set i (some (.ref p))) (upd H p (.lst []))) : tAsg (tLst tNil) (gName i) d σ H := ⟨Nat.zero_le _, h⟩
theorem retL (h : te σ H d.rt) : tRet te d σ H := h
end
end Hw
namespace Hw
open PySem PySem.Spec PyProof.Rows L2
section
variable {X : Cx} {K : PySem.W.Frag}
theorem pi_enumK {e : Expr} {ta : TA} {p pos tpos : Pos} {elts : List Expr} {kk : Nat} (h : X.K = K) (hg : Gl X "enumerate") (hm : X.mg "enumerate" = none) (ha : PA X [e] ta) (hs : starEach [e] X.env = [(false, eval e X.env)] := by rfl) :
    PI X (.Tuple elts kk tpos) (.Call (.Name "enumerate" p) [e] [] pos) (iEnum K ta) := by
  subst h
  exact pi_enum hg hm ha hs
theorem pi_listK {tg : Expr} {l : Expr} {tl : TE} (h : X.K = K) (hl : PE X l tl) : PI X tg l (iList K tl) := by
  subst h
  exact pi_list hl
end
end Hw
namespace Hw
open PySem PySem.Spec PyProof.Rows L2
/-! ### literals, told exactly -/
def Ed (d : PyData) : Fi := fun x H => Dt H x d
def Eda (ds : List PyData) : List V → Hp → Prop := fun xs H => DtAll H xs ds
abbrev Tr : Hp → Prop := fun _ => True
section
variable {σ : L2.St} {ds : List PyData} {d : PyData} {te : TE} {ta : TA} {i j : Nat} {e : Ends} {H : Hp}
theorem Ev.eint (i : Int) : Ev Tr (Ed (.int i)) (tC (.int i)) σ := fun H Q _ q => q _ H (Same.refl H) (.int i)
theorem Ev.ebl (b : Bool) : Ev Tr (Ed (.bool b)) (tC (.bl b)) σ := fun H Q _ q => q _ H (Same.refl H) (.bl b)
theorem Ev.estr (x : Str) : Ev Tr (Ed (.str x)) (tC (.str x)) σ := fun H Q _ q => q _ H (Same.refl H) (.str x)
theorem Ev.enon : Ev Tr (Ed .none) (tC .non) σ := fun H Q _ q => q _ H (Same.refl H) .non
theorem Eva.enil : Eva Tr (Eda []) tNil σ := fun H Q _ q => q _ H (Same.refl H) .nil
theorem Eva.econs (h : Ev Tr (Ed d) te σ) (r : Eva Tr (Eda ds) ta σ) : Eva Tr (Eda (d :: ds)) (tCons te ta) σ := fun H Q s q => h H _ s fun x H1 e1 p1 => r H1 _ s fun xs H2 e2 p2 => q _ H2 (e1.trans e2) (.cons (Dt.to p1 e2) p2)
theorem Ev.elst (h : Eva Tr (Eda ds) ta σ) (hn : ds.length ≤ 100000 := by decide) : Ev Tr (Ed (.list ds)) (tLst ta) σ := fun H Q s q => h H _ s fun xs H1 e1 p1 => by
  have p1 : DtAll H1 xs ds := p1
  refine ⟨by rw [p1.len, sizeLine_eq]; omega, fun p hp => ?_⟩
  have e2 := same_new' (o := .lst xs) hp
  exact q _ _ (e1.trans e2) (Dt.lst upd_same (p1.to e2))
theorem Ev.etup (h : Eva Tr (Eda ds) ta σ) (hn : ds.length ≤ 100000 := by decide) : Ev Tr (Ed (.tuple ds)) (tTup ta) σ := fun H Q s q => h H _ s fun xs H1 e1 p1 => by
  have p1 : DtAll H1 xs ds := p1
  refine ⟨by rw [p1.len, sizeLine_eq]; omega, fun p hp => ?_⟩
  have e2 := same_new' (o := .tup xs) hp
  exact q _ _ (e1.trans e2) (Dt.tup upd_same (p1.to e2))
theorem parL (h : ta σ H fun vs H1 => ∃ v w, vs = [v, w] ∧ e.nx ((σ.set i (some v)).set j (some w)) H1) : tPar i j ta e σ H := h
theorem Dt.nats_at {x : V} {l : List Nat} (h : Dt H x (.list (natD l))) : ∃ a, x = .ref a ∧ H a = some (.lst (natV l)) := by
  cases h with
  | @lst a xs _ ha hs =>
    have e := DtAll.nats_inv _ _ hs
    subst e
    exact ⟨a, rfl, ha⟩
theorem natV_rep (n x : Nat) : (List.replicate n [V.int (x : Int)]).flatten = natV (List.replicate n x) := by
  unfold natV
  rw [List.map_replicate]
  induction n with
  | zero => rfl
  | succ n ih => rw [List.replicate_succ, List.flatten_cons, ih, List.replicate_succ]; rfl
theorem natV_rep2 (n x y : Nat) : (List.replicate n [V.int (x : Int), .int (y : Int)]).flatten = natV (List.replicate n [x, y]).flatten := by
  unfold natV
  rw [List.map_flatten, List.map_replicate]
  rfl
end
end Hw

set_option Elab.async false
set_option linter.all false
set_option maxRecDepth 100000
set_option maxHeartbeats 4000000

namespace K13
open PySem PySem.Spec PyProof.Rows L2 Hw
def topS (i : Nat) : Stmt := PySem.Challenge.pw_howeverwide_k13_whole_tables_and_rows.main.body.getD i (.Pass ⟨0, 0, 0, 0⟩)
abbrev s_is_whole : Stmt := topS 9
theorem sc_is_whole : FnScope ["value"] ["value"] (defScope s_is_whole) := ⟨rfl, rfl, rfl, by decide +kernel, rfl, by decide +kernel, by decide +kernel⟩
abbrev s_is_count_to : Stmt := topS 10
theorem sc_is_count_to : FnScope ["value", "most"] ["value", "most"] (defScope s_is_count_to) := ⟨rfl, rfl, rfl, by decide +kernel, rfl, by decide +kernel, by decide +kernel⟩
abbrev s_is_row : Stmt := topS 11
theorem sc_is_row : FnScope ["value", "many", "letter"] ["value", "many"] (defScope s_is_row) := ⟨rfl, rfl, rfl, by decide +kernel, rfl, by decide +kernel, by decide +kernel⟩
abbrev s_is_word_of : Stmt := topS 12
theorem sc_is_word_of : FnScope ["width", "value"] ["width", "value"] (defScope s_is_word_of) := ⟨rfl, rfl, rfl, by decide +kernel, rfl, by decide +kernel, by decide +kernel⟩
abbrev s_check_width : Stmt := topS 13
theorem sc_check_width : FnScope ["width"] ["width"] (defScope s_check_width) := ⟨rfl, rfl, rfl, by decide +kernel, rfl, by decide +kernel, by decide +kernel⟩
abbrev s_check_width_to : Stmt := topS 14
theorem sc_check_width_to : FnScope ["width", "most"] ["width", "most"] (defScope s_check_width_to) := ⟨rfl, rfl, rfl, by decide +kernel, rfl, by decide +kernel, by decide +kernel⟩
abbrev s_is_table_form : Stmt := topS 15
theorem sc_is_table_form : FnScope ["value", "many", "steps", "ends", "step", "end"] ["value"] (defScope s_is_table_form) := ⟨rfl, rfl, rfl, by decide +kernel, rfl, by decide +kernel, by decide +kernel⟩
abbrev s_is_step : Stmt := topS 16
theorem sc_is_step : FnScope ["value", "size", "stands", "stand"] ["value", "size", "stands"] (defScope s_is_step) := ⟨rfl, rfl, rfl, by decide +kernel, rfl, by decide +kernel, by decide +kernel⟩
abbrev s_letters_of : Stmt := topS 17
theorem sc_letters_of : FnScope ["width", "words", "row", "place", "number", "word"] ["width", "words"] (defScope s_letters_of) := ⟨rfl, rfl, rfl, by decide +kernel, rfl, by decide +kernel, by decide +kernel⟩
abbrev s_stand_after : Stmt := topS 18
theorem sc_stand_after : FnScope ["table", "row", "stand", "letter"] ["table", "row"] (defScope s_stand_after) := ⟨rfl, rfl, rfl, by decide +kernel, rfl, by decide +kernel, by decide +kernel⟩
abbrev s_is_table : Stmt := topS 20
theorem sc_is_table : FnScope ["value"] ["value"] (defScope s_is_table) := ⟨rfl, rfl, rfl, by decide +kernel, rfl, by decide +kernel, by decide +kernel⟩
abbrev s_check_table : Stmt := topS 21
theorem sc_check_table : FnScope ["table"] ["table"] (defScope s_check_table) := ⟨rfl, rfl, rfl, by decide +kernel, rfl, by decide +kernel, by decide +kernel⟩
abbrev s_check_many : Stmt := topS 22
theorem sc_check_many : FnScope ["many"] ["many"] (defScope s_check_many) := ⟨rfl, rfl, rfl, by decide +kernel, rfl, by decide +kernel, by decide +kernel⟩
abbrev s_check_row : Stmt := topS 23
theorem sc_check_row : FnScope ["many", "row"] ["many", "row"] (defScope s_check_row) := ⟨rfl, rfl, rfl, by decide +kernel, rfl, by decide +kernel, by decide +kernel⟩
abbrev s_stand_behind : Stmt := topS 24
theorem sc_stand_behind : FnScope ["table", "row"] ["table", "row"] (defScope s_stand_behind) := ⟨rfl, rfl, rfl, by decide +kernel, rfl, by decide +kernel, by decide +kernel⟩
abbrev s_takes : Stmt := topS 25
theorem sc_takes : FnScope ["table", "row"] ["table", "row"] (defScope s_takes) := ⟨rfl, rfl, rfl, by decide +kernel, rfl, by decide +kernel, by decide +kernel⟩
abbrev s_table_ends : Stmt := topS 26
theorem sc_table_ends : FnScope ["table", "stand"] ["table", "stand"] (defScope s_table_ends) := ⟨rfl, rfl, rfl, by decide +kernel, rfl, by decide +kernel, by decide +kernel⟩
abbrev s_row_of : Stmt := topS 27
theorem sc_row_of : FnScope ["width", "words", "word"] ["width", "words"] (defScope s_row_of) := ⟨rfl, rfl, rfl, by decide +kernel, rfl, by decide +kernel, by decide +kernel⟩
abbrev s_words_of : Stmt := topS 28
theorem sc_words_of : FnScope ["many", "row", "words", "number", "place", "letter"] ["many", "row"] (defScope s_words_of) := ⟨rfl, rfl, rfl, by decide +kernel, rfl, by decide +kernel, by decide +kernel⟩
abbrev s_law_hash : Stmt := topS 30
theorem sc_law_hash : FnScope ["_law_seed", "_law_index", "_law_mixed"] ["_law_seed", "_law_index"] (defScope s_law_hash) := ⟨rfl, rfl, rfl, by decide +kernel, rfl, by decide +kernel, by decide +kernel⟩
abbrev s_law_random : Stmt := topS 31
theorem sc_law_random : FnScope ["_law_generator_here", "_law_bound", "_law_drawn", "_law_turn"] ["_law_generator_here", "_law_bound"] (defScope s_law_random) := ⟨rfl, rfl, rfl, by decide +kernel, rfl, by decide +kernel, by decide +kernel⟩
abbrev s_law_cell : Stmt := topS 32
theorem sc_law_cell : FnScope ["_law_script", "_law_index"] ["_law_script", "_law_index"] (defScope s_law_cell) := ⟨rfl, rfl, rfl, by decide +kernel, rfl, by decide +kernel, by decide +kernel⟩
abbrev s_law_generator : Stmt := topS 33
theorem sc_law_generator : FnScope ["_law_script", "_law_index", "_law_seed"] ["_law_script", "_law_index"] (defScope s_law_generator) := ⟨rfl, rfl, rfl, by decide +kernel, rfl, by decide +kernel, by decide +kernel⟩
abbrev s_law_two : Stmt := topS 34
theorem sc_law_two : FnScope ["_law_many"] ["_law_many"] (defScope s_law_two) := ⟨rfl, rfl, rfl, by decide +kernel, rfl, by decide +kernel, by decide +kernel⟩
abbrev s_law_table : Stmt := topS 35
theorem sc_law_table : FnScope ["_law_generator_here", "_law_many", "_law_most", "_law_size", "_law_steps_there", "_law_stand", "_law_letter"] ["_law_generator_here", "_law_many", "_law_most"] (defScope s_law_table) := ⟨rfl, rfl, rfl, by decide +kernel, rfl, by decide +kernel, by decide +kernel⟩
abbrev s_law_behind : Stmt := topS 37
theorem sc_law_behind : FnScope ["_law_known", "_law_row_there", "_law_stand", "_law_letter"] ["_law_known", "_law_row_there"] (defScope s_law_behind) := ⟨rfl, rfl, rfl, by decide +kernel, rfl, by decide +kernel, by decide +kernel⟩
abbrev s_law_takes : Stmt := topS 38
theorem sc_law_takes : FnScope ["_law_known", "_law_row_there"] ["_law_known", "_law_row_there"] (defScope s_law_takes) := ⟨rfl, rfl, rfl, by decide +kernel, rfl, by decide +kernel, by decide +kernel⟩
abbrev s_law_is_table : Stmt := topS 48
theorem sc_law_is_table : FnScope ["_law_value_there", "_law_many", "_law_steps_there", "_law_ends_there", "_law_line", "_law_end", "_law_item"] ["_law_value_there"] (defScope s_law_is_table) := ⟨rfl, rfl, rfl, by decide +kernel, rfl, by decide +kernel, by decide +kernel⟩
abbrev s_law_bent : Stmt := topS 49
theorem sc_law_bent : FnScope ["_law_generator_here", "_law_known", "_law_at", "_law_letter", "_law_found", "_law_odd", "_law_line"] ["_law_generator_here", "_law_known"] (defScope s_law_bent) := ⟨rfl, rfl, rfl, by decide +kernel, rfl, by decide +kernel, by decide +kernel⟩
abbrev s_law_right : Stmt := topS 50
theorem sc_law_right : FnScope ["_law_generator_here", "_law_many", "_law_known", "_law_kept_here", "_law_turn", "_law_row_there", "_law_given", "_law_words_there", "_law_size", "_law_due", "_law_told", "_law_value_there", "_law_place", "_law_letter", "_law_at", "_law_word"] ["_law_generator_here"] (defScope s_law_right) := ⟨rfl, rfl, rfl, by decide +kernel, rfl, by decide +kernel, by decide +kernel⟩
abbrev s_law : Stmt := topS 51
theorem sc_law : FnScope ["_law_script", "_law_index", "_law_even", "_law_less", "_law_told"] ["_law_script"] (defScope s_law) := ⟨rfl, rfl, rfl, by decide +kernel, rfl, by decide +kernel, by decide +kernel⟩
/-- what the top has written -/
structure Tx (K : PySem.W.Frag) (mg : Str → Option Value) where
  a_is_whole : Addr
  d_is_whole : FuncData
  F_is_whole : DefAt K "is_whole" s_is_whole a_is_whole d_is_whole
  g_is_whole : mg "is_whole" = some (.ref a_is_whole)
  a_is_count_to : Addr
  d_is_count_to : FuncData
  F_is_count_to : DefAt K "is_count_to" s_is_count_to a_is_count_to d_is_count_to
  g_is_count_to : mg "is_count_to" = some (.ref a_is_count_to)
  a_is_row : Addr
  d_is_row : FuncData
  F_is_row : DefAt K "is_row" s_is_row a_is_row d_is_row
  g_is_row : mg "is_row" = some (.ref a_is_row)
  a_is_word_of : Addr
  d_is_word_of : FuncData
  F_is_word_of : DefAt K "is_word_of" s_is_word_of a_is_word_of d_is_word_of
  g_is_word_of : mg "is_word_of" = some (.ref a_is_word_of)
  a_check_width : Addr
  d_check_width : FuncData
  F_check_width : DefAt K "check_width" s_check_width a_check_width d_check_width
  g_check_width : mg "check_width" = some (.ref a_check_width)
  a_check_width_to : Addr
  d_check_width_to : FuncData
  F_check_width_to : DefAt K "check_width_to" s_check_width_to a_check_width_to d_check_width_to
  g_check_width_to : mg "check_width_to" = some (.ref a_check_width_to)
  a_is_table_form : Addr
  d_is_table_form : FuncData
  F_is_table_form : DefAt K "is_table_form" s_is_table_form a_is_table_form d_is_table_form
  g_is_table_form : mg "is_table_form" = some (.ref a_is_table_form)
  a_is_step : Addr
  d_is_step : FuncData
  F_is_step : DefAt K "is_step" s_is_step a_is_step d_is_step
  g_is_step : mg "is_step" = some (.ref a_is_step)
  a_letters_of : Addr
  d_letters_of : FuncData
  F_letters_of : DefAt K "letters_of" s_letters_of a_letters_of d_letters_of
  g_letters_of : mg "letters_of" = some (.ref a_letters_of)
  a_stand_after : Addr
  d_stand_after : FuncData
  F_stand_after : DefAt K "stand_after" s_stand_after a_stand_after d_stand_after
  g_stand_after : mg "stand_after" = some (.ref a_stand_after)
  a_is_table : Addr
  d_is_table : FuncData
  F_is_table : DefAt K "is_table" s_is_table a_is_table d_is_table
  g_is_table : mg "is_table" = some (.ref a_is_table)
  a_check_table : Addr
  d_check_table : FuncData
  F_check_table : DefAt K "check_table" s_check_table a_check_table d_check_table
  g_check_table : mg "check_table" = some (.ref a_check_table)
  a_check_many : Addr
  d_check_many : FuncData
  F_check_many : DefAt K "check_many" s_check_many a_check_many d_check_many
  g_check_many : mg "check_many" = some (.ref a_check_many)
  a_check_row : Addr
  d_check_row : FuncData
  F_check_row : DefAt K "check_row" s_check_row a_check_row d_check_row
  g_check_row : mg "check_row" = some (.ref a_check_row)
  a_stand_behind : Addr
  d_stand_behind : FuncData
  F_stand_behind : DefAt K "stand_behind" s_stand_behind a_stand_behind d_stand_behind
  g_stand_behind : mg "stand_behind" = some (.ref a_stand_behind)
  a_takes : Addr
  d_takes : FuncData
  F_takes : DefAt K "takes" s_takes a_takes d_takes
  g_takes : mg "takes" = some (.ref a_takes)
  a_table_ends : Addr
  d_table_ends : FuncData
  F_table_ends : DefAt K "table_ends" s_table_ends a_table_ends d_table_ends
  g_table_ends : mg "table_ends" = some (.ref a_table_ends)
  a_row_of : Addr
  d_row_of : FuncData
  F_row_of : DefAt K "row_of" s_row_of a_row_of d_row_of
  g_row_of : mg "row_of" = some (.ref a_row_of)
  a_words_of : Addr
  d_words_of : FuncData
  F_words_of : DefAt K "words_of" s_words_of a_words_of d_words_of
  g_words_of : mg "words_of" = some (.ref a_words_of)
  a_law_hash : Addr
  d_law_hash : FuncData
  F_law_hash : DefAt K "_law_hash" s_law_hash a_law_hash d_law_hash
  g_law_hash : mg "_law_hash" = some (.ref a_law_hash)
  a_law_random : Addr
  d_law_random : FuncData
  F_law_random : DefAt K "_law_random" s_law_random a_law_random d_law_random
  g_law_random : mg "_law_random" = some (.ref a_law_random)
  a_law_cell : Addr
  d_law_cell : FuncData
  F_law_cell : DefAt K "_law_cell" s_law_cell a_law_cell d_law_cell
  g_law_cell : mg "_law_cell" = some (.ref a_law_cell)
  a_law_generator : Addr
  d_law_generator : FuncData
  F_law_generator : DefAt K "_law_generator" s_law_generator a_law_generator d_law_generator
  g_law_generator : mg "_law_generator" = some (.ref a_law_generator)
  a_law_two : Addr
  d_law_two : FuncData
  F_law_two : DefAt K "_law_two" s_law_two a_law_two d_law_two
  g_law_two : mg "_law_two" = some (.ref a_law_two)
  a_law_table : Addr
  d_law_table : FuncData
  F_law_table : DefAt K "_law_table" s_law_table a_law_table d_law_table
  g_law_table : mg "_law_table" = some (.ref a_law_table)
  a_law_behind : Addr
  d_law_behind : FuncData
  F_law_behind : DefAt K "_law_behind" s_law_behind a_law_behind d_law_behind
  g_law_behind : mg "_law_behind" = some (.ref a_law_behind)
  a_law_takes : Addr
  d_law_takes : FuncData
  F_law_takes : DefAt K "_law_takes" s_law_takes a_law_takes d_law_takes
  g_law_takes : mg "_law_takes" = some (.ref a_law_takes)
  a_law_is_table : Addr
  d_law_is_table : FuncData
  F_law_is_table : DefAt K "_law_is_table" s_law_is_table a_law_is_table d_law_is_table
  g_law_is_table : mg "_law_is_table" = some (.ref a_law_is_table)
  a_law_bent : Addr
  d_law_bent : FuncData
  F_law_bent : DefAt K "_law_bent" s_law_bent a_law_bent d_law_bent
  g_law_bent : mg "_law_bent" = some (.ref a_law_bent)
  a_law_right : Addr
  d_law_right : FuncData
  F_law_right : DefAt K "_law_right" s_law_right a_law_right d_law_right
  g_law_right : mg "_law_right" = some (.ref a_law_right)
  a_law : Addr
  d_law : FuncData
  F_law : DefAt K "law" s_law a_law d_law
  g_law : mg "law" = some (.ref a_law)
  z_all : mg "all" = none
  z_bool : mg "bool" = none
  z_enumerate : mg "enumerate" = none
  z_int : mg "int" = none
  z_isinstance : mg "isinstance" = none
  z_len : mg "len" = none
  z_list : mg "list" = none
  z_max : mg "max" = none
  z_range : mg "range" = none
  z_repr : mg "repr" = none
  z_sum : mg "sum" = none
  z_tuple : mg "tuple" = none
  c_MOST_WIDTH : ∃ u, mg "MOST_WIDTH" = some u ∧ RelV (.int 64) u
  c_MOST_NAMES : ∃ u, mg "MOST_NAMES" = some u ∧ RelV (.int 6) u
section
variable {K : PySem.W.Frag} {mg : Str → Option Value}
theorem Tx.b_is_whole (T : Tx K mg) : Binds K T.d_is_whole ["value"] [] := T.F_is_whole.bindsN fun _ _ _ _ _ _ us hl => match us, hl with | [_], _ => rfl
theorem Tx.b_is_count_to (T : Tx K mg) : Binds K T.d_is_count_to ["value", "most"] [] := T.F_is_count_to.bindsN fun _ _ _ _ _ _ us hl => match us, hl with | [_, _], _ => rfl
theorem Tx.b_is_row (T : Tx K mg) : Binds K T.d_is_row ["value", "many"] [] := T.F_is_row.bindsN fun _ _ _ _ _ _ us hl => match us, hl with | [_, _], _ => rfl
theorem Tx.b_is_word_of (T : Tx K mg) : Binds K T.d_is_word_of ["width", "value"] [] := T.F_is_word_of.bindsN fun _ _ _ _ _ _ us hl => match us, hl with | [_, _], _ => rfl
theorem Tx.b_check_width (T : Tx K mg) : Binds K T.d_check_width ["width"] [] := T.F_check_width.bindsN fun _ _ _ _ _ _ us hl => match us, hl with | [_], _ => rfl
theorem Tx.b_check_width_to (T : Tx K mg) : Binds K T.d_check_width_to ["width", "most"] [] := T.F_check_width_to.bindsN fun _ _ _ _ _ _ us hl => match us, hl with | [_, _], _ => rfl
theorem Tx.b_is_table_form (T : Tx K mg) : Binds K T.d_is_table_form ["value"] [] := T.F_is_table_form.bindsN fun _ _ _ _ _ _ us hl => match us, hl with | [_], _ => rfl
theorem Tx.b_is_step (T : Tx K mg) : Binds K T.d_is_step ["value", "size", "stands"] [] := T.F_is_step.bindsN fun _ _ _ _ _ _ us hl => match us, hl with | [_, _, _], _ => rfl
theorem Tx.b_letters_of (T : Tx K mg) : Binds K T.d_letters_of ["width", "words"] [] := T.F_letters_of.bindsN fun _ _ _ _ _ _ us hl => match us, hl with | [_, _], _ => rfl
theorem Tx.b_stand_after (T : Tx K mg) : Binds K T.d_stand_after ["table", "row"] [] := T.F_stand_after.bindsN fun _ _ _ _ _ _ us hl => match us, hl with | [_, _], _ => rfl
theorem Tx.b_is_table (T : Tx K mg) : Binds K T.d_is_table ["value"] [] := T.F_is_table.bindsN fun _ _ _ _ _ _ us hl => match us, hl with | [_], _ => rfl
theorem Tx.b_check_table (T : Tx K mg) : Binds K T.d_check_table ["table"] [] := T.F_check_table.bindsN fun _ _ _ _ _ _ us hl => match us, hl with | [_], _ => rfl
theorem Tx.b_check_many (T : Tx K mg) : Binds K T.d_check_many ["many"] [] := T.F_check_many.bindsN fun _ _ _ _ _ _ us hl => match us, hl with | [_], _ => rfl
theorem Tx.b_check_row (T : Tx K mg) : Binds K T.d_check_row ["many", "row"] [] := T.F_check_row.bindsN fun _ _ _ _ _ _ us hl => match us, hl with | [_, _], _ => rfl
theorem Tx.b_stand_behind (T : Tx K mg) : Binds K T.d_stand_behind ["table", "row"] [] := T.F_stand_behind.bindsN fun _ _ _ _ _ _ us hl => match us, hl with | [_, _], _ => rfl
theorem Tx.b_takes (T : Tx K mg) : Binds K T.d_takes ["table", "row"] [] := T.F_takes.bindsN fun _ _ _ _ _ _ us hl => match us, hl with | [_, _], _ => rfl
theorem Tx.b_table_ends (T : Tx K mg) : Binds K T.d_table_ends ["table", "stand"] [] := T.F_table_ends.bindsN fun _ _ _ _ _ _ us hl => match us, hl with | [_, _], _ => rfl
theorem Tx.b_row_of (T : Tx K mg) : Binds K T.d_row_of ["width", "words"] [] := T.F_row_of.bindsN fun _ _ _ _ _ _ us hl => match us, hl with | [_, _], _ => rfl
theorem Tx.b_words_of (T : Tx K mg) : Binds K T.d_words_of ["many", "row"] [] := T.F_words_of.bindsN fun _ _ _ _ _ _ us hl => match us, hl with | [_, _], _ => rfl
theorem Tx.b_law_hash (T : Tx K mg) : Binds K T.d_law_hash ["_law_seed", "_law_index"] [] := T.F_law_hash.bindsN fun _ _ _ _ _ _ us hl => match us, hl with | [_, _], _ => rfl
theorem Tx.b_law_random (T : Tx K mg) : Binds K T.d_law_random ["_law_generator_here", "_law_bound"] [] := T.F_law_random.bindsN fun _ _ _ _ _ _ us hl => match us, hl with | [_, _], _ => rfl
theorem Tx.b_law_cell (T : Tx K mg) : Binds K T.d_law_cell ["_law_script", "_law_index"] [] := T.F_law_cell.bindsN fun _ _ _ _ _ _ us hl => match us, hl with | [_, _], _ => rfl
theorem Tx.b_law_generator (T : Tx K mg) : Binds K T.d_law_generator ["_law_script", "_law_index"] [] := T.F_law_generator.bindsN fun _ _ _ _ _ _ us hl => match us, hl with | [_, _], _ => rfl
theorem Tx.b_law_two (T : Tx K mg) : Binds K T.d_law_two ["_law_many"] [] := T.F_law_two.bindsN fun _ _ _ _ _ _ us hl => match us, hl with | [_], _ => rfl
theorem Tx.b_law_table (T : Tx K mg) : Binds K T.d_law_table ["_law_generator_here", "_law_many", "_law_most"] [] := T.F_law_table.bindsN fun _ _ _ _ _ _ us hl => match us, hl with | [_, _, _], _ => rfl
theorem Tx.b_law_behind (T : Tx K mg) : Binds K T.d_law_behind ["_law_known", "_law_row_there"] [] := T.F_law_behind.bindsN fun _ _ _ _ _ _ us hl => match us, hl with | [_, _], _ => rfl
theorem Tx.b_law_takes (T : Tx K mg) : Binds K T.d_law_takes ["_law_known", "_law_row_there"] [] := T.F_law_takes.bindsN fun _ _ _ _ _ _ us hl => match us, hl with | [_, _], _ => rfl
theorem Tx.b_law_is_table (T : Tx K mg) : Binds K T.d_law_is_table ["_law_value_there"] [] := T.F_law_is_table.bindsN fun _ _ _ _ _ _ us hl => match us, hl with | [_], _ => rfl
theorem Tx.b_law_bent (T : Tx K mg) : Binds K T.d_law_bent ["_law_generator_here", "_law_known"] [] := T.F_law_bent.bindsN fun _ _ _ _ _ _ us hl => match us, hl with | [_, _], _ => rfl
theorem Tx.b_law_right (T : Tx K mg) : Binds K T.d_law_right ["_law_generator_here"] [] := T.F_law_right.bindsN fun _ _ _ _ _ _ us hl => match us, hl with | [_], _ => rfl
theorem Tx.b_law (T : Tx K mg) : Binds K T.d_law ["_law_script"] [] := T.F_law.bindsN fun _ _ _ _ _ _ us hl => match us, hl with | [_], _ => rfl
end

/-! ### the law's own random numbers -/
section
variable {P : Program} {w : World} {K : PySem.W.Frag} {mg : Str → Option Value} {base : Heap}
/-- the seed is a rest by 2147483647, the index not far -/
def spHash : Sp := fun vs H Q _ => ∃ a b : Int, vs = [.int a, .int b] ∧ 0 ≤ a ∧ a < 2147483648 ∧ 0 ≤ b ∧ b < 4294967296 ∧ ∀ r : Int, 0 ≤ r → r < 2147483647 → Q (.int r) H
theorem nlt {i : Int} {n : Nat} (h0 : 0 ≤ i) (h : i < 2 ^ n) : i.natAbs < 2 ^ n := by
  have e : ((2 ^ n : Nat) : Int) = (2 : Int) ^ n := by rw [Int.natCast_pow]; rfl
  omega
theorem ok_law_hash (T : Tx K mg) : FnG P w K mg base CX0 1 T.a_law_hash T.d_law_hash ["_law_seed", "_law_index"] spHash := by
  refine bodyG0 T.F_law_hash sc_law_hash (fun vs H Q E h => ?_) (fun cdv A outer s H vs Q E gd hr h => ?_)
  · obtain ⟨a, b, rfl, _⟩ := h; rfl
  · obtain ⟨a, b, rfl, a0, a1, b0, b1, q⟩ := h
    refine ⟨_, (pss_cons (ps_set (i := 2) sc_law_hash.nd rfl (Or.inl rfl) (pe_op op_mod (pe_callTy call_int1 (by rfl) T.z_int (by decide +kernel) (pa_cons (pe_op op_add (pe_op op_add (pe_op op_add (pe_op op_mulX (pv 0) pe_int) (pe_op op_mulX (pe_op op_mulX pe_int (pv 1)) (pv 1))) (pe_op op_mulX pe_int (pv 1))) pe_int) pa_nil)) pe_int))
      (pss_cons (ps_set (i := 2) sc_law_hash.nd rfl (Or.inl rfl) (pe_op op_mod (pe_callTy call_int1 (by rfl) T.z_int (by decide +kernel) (pa_cons (pe_op op_add (pe_op op_add (pe_op op_mulX (pv 2) (pv 2)) (pe_op op_mulX pe_int (pv 1))) pe_int) pa_nil)) pe_int))
      (pss_one (ps_ret (pe_op op_mod (pe_callTy call_int1 (by rfl) T.z_int (by decide +kernel) (pa_cons (pe_op op_mulX (pv 2) pe_int) pa_nil)) pe_int))))), ?_⟩
    have ha : a.natAbs < 2 ^ 31 := nlt a0 a1
    have hb : b.natAbs < 2 ^ 32 := nlt b0 b1
    refine ⟨_, rfl, _, _, rfl, rfl, mulx_ok ha (b := 31) (by decide) (by decide), _, rfl, _, _, rfl, rfl, mulx_ok (a := 31) (by decide) hb (by decide), _, rfl, _, _, rfl, rfl, mulx_ok (wide_lt (a := 31) (by decide) hb) hb (by decide), _, _, rfl, rfl, _, rfl, _, _, rfl, rfl, mulx_ok (a := 31) (by decide) hb (by decide), _, _, rfl, rfl, _, _, rfl, rfl, .inl ⟨_, rfl, _, _, rfl, rfl, (by decide : (0 : Int) < 2147483629), ?_⟩⟩
    dsimp only
    generalize (a * 1140671 + 27644437 * b * b + 131 * b + 19) = x1
    have x0 := Int.emod_nonneg x1 (by decide : (2147483629 : Int) ≠ 0)
    have x2 := Int.emod_lt_of_pos x1 (by decide : (0 : Int) < 2147483629)
    generalize x1 % 2147483629 = x at x0 x2
    have hx : x.natAbs < 2 ^ 31 := nlt x0 (by omega)
    refine ⟨_, rfl, _, rfl, _, _, rfl, rfl, mulx_ok hx hx (by decide), _, rfl, _, _, rfl, rfl, mulx_ok (a := 31) (by decide) hb (by decide), _, _, rfl, rfl, _, _, rfl, rfl, .inl ⟨_, rfl, _, _, rfl, rfl, (by decide : (0 : Int) < 2147483587), ?_⟩⟩
    dsimp only
    generalize (x * x + 62089 * b + 32416187) = y1
    have y0 := Int.emod_nonneg y1 (by decide : (2147483587 : Int) ≠ 0)
    have y2 := Int.emod_lt_of_pos y1 (by decide : (0 : Int) < 2147483587)
    generalize y1 % 2147483587 = y at y0 y2
    have hy : y.natAbs < 2 ^ 31 := nlt y0 (by omega)
    refine ⟨_, rfl, _, _, rfl, rfl, mulx_ok hy (b := 31) (by decide) (by decide), .inl ⟨_, rfl, _, _, rfl, rfl, (by decide : (0 : Int) < 2147483647), ?_⟩⟩
    exact q _ (Int.emod_nonneg _ (by decide)) (Int.emod_lt_of_pos _ (by decide))

/-- the generator: what is left of a great seed, the seed's rest, the index -/
structure GenOk (s t c m : Int) : Prop where
  s0 : 0 ≤ s
  s1 : s < 2 ^ 2000
  t0 : 0 ≤ t
  t1 : t < 2147483648
  c0 : 0 ≤ c
  c1 : c ≤ m
def genL (s t c : Int) : HO := .lst [.int s, .int t, .int c]
/-- a draw below a bound: the generator's list at a is another one; the index grows by a hundred at most -/
def spRandom : Sp := fun vs H Q _ => ∃ (a : Addr) (b s t c m : Int), vs = [.ref a, .int b] ∧ H a = some (genL s t c) ∧ GenOk s t c m ∧ m + 100 < 4294967296 ∧ 0 < b ∧ b < 2 ^ 2000 ∧
  ∀ (r s' c' : Int), 0 ≤ r → r < b → GenOk s' t c' (m + 100) → Q (.int r) (upd H a (genL s' t c'))
theorem bits_le_of {b : Int} {n : Nat} (h0 : 0 ≤ b) (h : b < 2 ^ n) : Builtin.Int.intBits b ≤ n := PyProof.Rows.intBits_le (nlt h0 h)
theorem ok_law_random (T : Tx K mg) : FnG P w K mg base CX0 2 T.a_law_random T.d_law_random ["_law_generator_here", "_law_bound"] spRandom := by
  have G_law_hash := ok_law_hash (P := P) (w := w) (base := base) T
  refine bodyG0 T.F_law_random sc_law_random (fun vs H Q E h => ?_) (fun cdv A outer s H vs Q E gd hr h => ?_)
  · obtain ⟨a, b, s, t, c, m, rfl, _⟩ := h; rfl
  · obtain ⟨a, b, s, t, c, m, rfl, hg, ok, hm, b0, b1, q⟩ := h
    obtain ⟨s0, s1, t0, t1, c0, c1⟩ := ok
    have sq : SqL K H a [.int s, .int t, .int c] := .inl (.inl hg)
    refine ⟨_, (pss_cons (ps_if (pt_cmpR op_gt (pe_ix (ix_listK (K := K) rfl) (pv 0) pe_int (fun _ _ => rfl)) pe_int (nomark _)) (pss_cons (ps_set (i := 2) sc_law_random.nd rfl (Or.inl rfl) (pe_op op_mod (pe_callTy call_int1 (by rfl) T.z_int (by decide +kernel) (pa_cons (pe_ix (ix_listK (K := K) rfl) (pv 0) pe_int (fun _ _ => rfl)) pa_nil)) (pv 1)))
      (pss_cons (ps_asg (pe_op op_fdivW (pe_ix (ix_listK (K := K) rfl) (pv 0) pe_int (fun _ _ => rfl)) (pv 1)) (pg_sub (pv 0) pe_int set_list))
      (pss_one (ps_ret (pv 2))))) pss_nil)
      (pss_cons (ps_set (i := 2) sc_law_random.nd rfl (Or.inl rfl) pe_int)
      (pss_cons (ps_for PassesOwn.never rfl (pi_range1 (by rfl) T.z_range (pa_cons (pe_op op_add pe_int (pe_op op_fdivW (pe_bits (pv 1)) pe_int)) pa_nil)) (pg_name (i := 3) sc_law_random.nd rfl (Or.inl rfl)) (pss_cons (ps_asg (pe_op op_add (pe_ix (ix_listK (K := K) rfl) (pv 0) pe_int (fun _ _ => rfl)) pe_int) (pg_sub (pv 0) pe_int set_list))
      (pss_one (ps_set (i := 2) sc_law_random.nd rfl (Or.inl rfl) (pe_op op_add (pe_op op_mulX (pv 2) pe_int) (pe_g G_law_hash gd (hr.mono (by decide)) (by rfl) T.g_law_hash T.F_law_hash.kp T.b_law_hash .nil pass0 (pa_cons (pe_ix (ix_listK (K := K) rfl) (pv 0) pe_int (fun _ _ => rfl)) (pa_cons (pe_ix (ix_listK (K := K) rfl) (pv 0) pe_int (fun _ _ => rfl)) pa_nil))))))))
      (pss_one (ps_ret (pe_op op_mod (pe_callTy call_int1 (by rfl) T.z_int (by decide +kernel) (pa_cons (pv 2) pa_nil)) (pv 1))))))), ?_⟩
    refine ⟨_, rfl, _, _, _, _, rfl, rfl, sq, atI_nat (j := 0) rfl, _, _, rfl, rfl, _, rfl, ?_⟩
    by_cases hs : 0 < s
    · rw [decide_eq_true hs]
      refine iteT ⟨_, rfl, _, _, _, _, rfl, rfl, sq, atI_nat (j := 0) rfl, .inl ⟨_, rfl, _, rfl, _, _, rfl, rfl, b0, ?_⟩⟩
      refine ⟨_, rfl, _, _, _, _, rfl, rfl, sq, atI_nat (j := 0) rfl, _, rfl, _, _, rfl, rfl, wide_div b0 (nlt (Int.le_of_lt b0) b1) (by decide) (by decide), ?_⟩
      refine ⟨_, rfl, a, _, _, 0, rfl, rfl, hg, rfl, ?_⟩
      refine ⟨_, rfl, ?_⟩
      have d0 := Int.ediv_nonneg s0 (Int.le_of_lt b0)
      have d1 : s / b ≤ s := Int.ediv_le_self b s0
      exact q _ _ _ (Int.emod_nonneg _ (by omega)) (Int.emod_lt_of_pos _ b0) ⟨d0, by omega, t0, t1, c0, by omega⟩
    · rw [decide_eq_false hs]
      refine iteF ?_
      have hbits := bits_le_of (Int.le_of_lt b0) b1
      have hq : ((1 : Int) + (Builtin.Int.intBits b : Nat) / 30) = ((1 + Builtin.Int.intBits b / 30 : Nat) : Int) := by rw [Int.natCast_add, Int.natCast_ediv]; rfl
      refine ⟨_, rfl, b, rfl, _, _, rfl, rfl, wide_div (b := 5) (by decide) (by decide) (by decide) (by decide), _, _, rfl, rfl, ((1 + Builtin.Int.intBits b / 30 : Nat) : Int), by rw [← hq], by omega, by omega, ?_⟩
      refine for_range (n := 1 + Builtin.Int.intBits b / 30) (fun i σ H' => ∃ (d : Int) (y : Option V), σ = [some (.ref a), some (.int b), some (.int d), y] ∧ H' = upd H a (genL s t (c + i)) ∧ 0 ≤ d ∧ d < 2 ^ (31 * i)) ⟨0, none, rfl, ?_, by decide, by decide⟩ ?_ ?_
      · rw [show c + ((0 : Nat) : Int) = c by omega]
        funext x
        unfold upd
        by_cases hx : x = a
        · rw [if_pos hx, hx, hg]
        · rw [if_neg hx]
      · rintro i σ H' hi ⟨d, y, rfl, rfl, d0, d1⟩
        have up : (upd H a (genL s t (c + i))) a = some (genL s t (c + i)) := upd_same
        have sq1 : SqL K (upd H a (genL s t (c + i))) a [.int s, .int t, .int (c + i)] := .inl (.inl up)
        refine ⟨_, rfl, _, _, _, _, rfl, rfl, sq1, atI_nat (j := 2) rfl, _, _, rfl, rfl, _, rfl, a, _, _, 2, rfl, rfl, up, rfl, ?_⟩
        have up2 : (upd (upd H a (genL s t (c + i))) a (.lst ([V.int s, .int t, .int (c + i)].set 2 (.int (c + i + 1))))) a = some (genL s t (c + i + 1)) := upd_same
        have sq2 : SqL K (upd (upd H a (genL s t (c + i))) a (.lst ([V.int s, .int t, .int (c + i)].set 2 (.int (c + i + 1))))) a [.int s, .int t, .int (c + i + 1)] := .inl (.inl up2)
        refine ⟨_, rfl, _, _, rfl, rfl, mulx_ok (nlt d0 d1) (b := 31) (by decide) (by omega), ?_⟩
        refine ⟨_, rfl, _, _, _, _, rfl, rfl, sq2, atI_nat (j := 1) rfl, _, rfl, _, _, _, _, rfl, rfl, sq2, atI_nat (j := 2) rfl, _, _, rfl, t0, t1, by omega, by omega, fun r r0 r1 => ⟨_, _, rfl, rfl, ?_⟩⟩
        refine ⟨d * 2147483587 + r, _, rfl, ?_, by omega, ?_⟩
        · rw [show c + ((i + 1 : Nat) : Int) = c + i + 1 by omega]
          exact upd_upd
        · have e : (2 : Int) ^ (31 * (i + 1)) = 2 ^ (31 * i) * 2147483648 := by
            rw [Nat.mul_add, Int.pow_add]; rfl
          have p : (1 : Int) ≤ 2 ^ (31 * i) := Int.pow_pos (by decide)
          rw [e]
          generalize (2 : Int) ^ (31 * i) = B at d1 p
          omega
      · rintro σ H' ⟨d, y, rfl, rfl, d0, d1⟩
        refine ⟨_, rfl, .inl ⟨_, rfl, _, rfl, _, _, rfl, rfl, b0, ?_⟩⟩
        exact q _ _ _ (Int.emod_nonneg _ (by omega)) (Int.emod_lt_of_pos _ b0) ⟨s0, s1, t0, t1, by omega, by omega⟩

theorem same_new {H : Hp} {p : Addr} {o : HO} (h : H p = none) : Same H (upd H p o) := fun b x e => by
  rw [upd_ne (ne_of_none e h)]
  exact e
theorem cut_first {α : Type} (f : α → V) (xs : List α) : cutV (xs.map f) none (some 1) = (xs.take 1).map f := by
  unfold cutV
  rw [HT.sIx_none, show HT.sIx (xs.map f).length (xs.map f).length (some 1) = min 1 (xs.map f).length from HT.sIx_nat _ _ 1]
  cases xs with
  | nil => rfl
  | cons x r =>
    rw [show min 1 ((x :: r).map f).length = 1 by rw [List.length_map, List.length_cons]; omega]
    rfl
def spCell (K : PySem.W.Frag) : Sp := fun vs H Q _ => ∃ (a : Addr) (ns : List Int) (j : Nat), vs = [.ref a, .int j] ∧ SqL K H a (ns.map V.int) ∧ ∀ (r : Int) (H' : Hp), Same H H' → Q (.int r) H'
theorem ok_law_cell (T : Tx K mg) : FnG P w K mg base CX0 1 T.a_law_cell T.d_law_cell ["_law_script", "_law_index"] (spCell K) := by
  refine bodyG0 T.F_law_cell sc_law_cell (fun vs H Q E h => ?_) (fun cdv A outer s H vs Q E gd hr h => ?_)
  · obtain ⟨a, ns, j, rfl, _⟩ := h; rfl
  · obtain ⟨a, ns, j, rfl, hS, q⟩ := h
    refine ⟨_, (pss_cons (ps_if (pt_cmpR op_lt (pv 1) (pe_callB (call_lenK (K := K) rfl) (by rfl) T.z_len (by decide +kernel) (pa_cons (pv 0) pa_nil)) (nomark _)) (pss_one (ps_ret (pe_ix (ix_listK (K := K) rfl) (pv 0) (pv 1) (fun _ _ => rfl)))) pss_nil)
      (pss_one (ps_ret (pe_op op_mod (pe_callB (cr_sumK (K := K) rfl rfl) (by rfl) T.z_sum (by decide +kernel) (pa_cons (pe_slice (sl_listK (K := K) rfl) (pv 0) po_none (po_some pe_int)) pa_nil)) pe_int)))), ?_⟩
    refine ⟨_, rfl, _, rfl, a, _, rfl, .inl hS, _, _, rfl, rfl, _, rfl, ?_⟩
    by_cases hj : ((j : Nat) : Int) < ((ns.map V.int).length : Nat)
    · rw [decide_eq_true hj]
      have hj2 : j < ns.length := by rw [List.length_map] at hj; omega
      refine iteT ⟨_, rfl, _, rfl, _, _, _, _, rfl, rfl, hS, atI_nat (j := j) (v := .int (ns[j])) ?_, q _ _ (Same.refl H)⟩
      rw [List.getElem?_map, List.getElem?_eq_getElem hj2]
      rfl
    · rw [decide_eq_false hj]
      refine iteF ⟨_, rfl, 1, rfl, a, _, rfl, hS, fun p hp => ?_⟩
      refine ⟨p, ns.take 1, rfl, .inl (.inl ?_), _, _, rfl, rfl, (by decide : (0 : Int) < 1000003), q _ _ (same_new hp)⟩
      rw [upd_same, cut_first]
def spGenerator (K : PySem.W.Frag) : Sp := fun vs H Q _ => ∃ (a : Addr) (ns : List Int) (j : Nat), vs = [.ref a, .int j] ∧ j ≤ 1000 ∧ SqL K H a (ns.map V.int) ∧
  ∀ (g : Addr) (H' : Hp) (s t c : Int), Same H H' → H g = none → H' g = some (genL s t c) → GenOk s t c (1000 * j) → Q (.ref g) H'
theorem ok_law_generator (T : Tx K mg) : FnG P w K mg base CX0 2 T.a_law_generator T.d_law_generator ["_law_script", "_law_index"] (spGenerator K) := by
  have G_law_cell := ok_law_cell (P := P) (w := w) (base := base) T
  refine bodyG0 T.F_law_generator sc_law_generator (fun vs H Q E h => ?_) (fun cdv A outer s H vs Q E gd hr h => ?_)
  · obtain ⟨a, ns, j, rfl, _⟩ := h; rfl
  · obtain ⟨a, ns, j, rfl, hj, hS, q⟩ := h
    refine ⟨_, (pss_cons (ps_set (i := 2) sc_law_generator.nd rfl (Or.inl rfl) (pe_g G_law_cell gd (hr.mono (by decide)) (by rfl) T.g_law_cell T.F_law_cell.kp T.b_law_cell .nil pass0 (pa_cons (pv 0) (pa_cons (pv 1) pa_nil))))
      (pss_one (ps_ret (pe_lst (pa_cons (pe_op op_mod (pe_callTy call_int1 (by rfl) T.z_int (by decide +kernel) (pa_cons (pe_callB (call_max2 rfl) (by rfl) T.z_max (by decide +kernel) (pa_cons (pe_op op_sub (pv 2) (pe_op op_powW pe_int pe_int)) (pa_cons pe_int pa_nil))) pa_nil)) (pe_op op_powW (pe_op op_powW pe_int pe_int) pe_int)) (pa_cons (pe_op op_mod (pe_callTy call_int1 (by rfl) T.z_int (by decide +kernel) (pa_cons (pv 2) pa_nil)) pe_int) (pa_cons (pe_op op_mulX pe_int (pv 1)) pa_nil))))))), ?_⟩
    refine ⟨_, rfl, _, rfl, a, ns, j, rfl, hS, fun r H' sm => ?_⟩
    have e10 : ((10 : Int) ^ 60).natAbs < 2 ^ 200 := by decide +kernel
    refine ⟨_, rfl, _, _, rfl, rfl, powW_ok (n := 4) (j := 18) (by decide) (by decide), _, _, rfl, rfl, _, _, rfl, .inl ⟨_, rfl, ?_⟩⟩
    refine ⟨_, _, rfl, rfl, powW_ok (n := 4) (j := 60) (by decide) (by decide), _, _, rfl, rfl, powW_ok (n := 200) (j := 10) e10 (by decide), _, _, rfl, rfl, (by decide +kernel : (0 : Int) < (10 ^ 60) ^ 10), ?_⟩
    refine ⟨_, rfl, .inl ⟨_, rfl, _, _, rfl, rfl, (by decide : (0 : Int) < 2147483647), ?_⟩⟩
    refine ⟨_, rfl, _, _, rfl, rfl, mulx_ok (a := 10) (b := 10) (by decide) (by omega) (by decide), by show 3 ≤ sizeLine; rw [sizeLine_eq]; decide, fun g hg => ?_⟩
    have big : ((10 : Int) ^ 60) ^ 10 < 2 ^ 2000 := by decide +kernel
    have m1 := Int.emod_lt_of_pos (if r - 10 ^ 18 < 0 then 0 else r - 10 ^ 18) (by decide +kernel : (0 : Int) < (10 ^ 60) ^ 10)
    refine q g _ _ _ _ (sm.trans (same_new hg)) (sm.free hg) upd_same ⟨Int.emod_nonneg _ (by decide +kernel), Int.lt_trans (Int.emod_lt_of_pos _ (by decide +kernel)) big, Int.emod_nonneg _ (by decide), Int.lt_trans (Int.emod_lt_of_pos _ (by decide)) (by decide), by omega, by omega⟩
end

end K13

set_option Elab.async false
set_option linter.all false
set_option maxRecDepth 100000
set_option maxHeartbeats 4000000
namespace K13
open PySem PySem.Spec PyProof.Rows L2 Hw

def whole (d : PyData) : Bool := isInt d && !isBool d
def cnt (d : PyData) (m : Int) : Bool := match d with
  | .int i => decide (0 ≤ i) && decide (i ≤ m)
  | _ => false
section
variable {P : Program} {w : World} {K : PySem.W.Frag} {mg : Str → Option Value} {base : Heap}
def spWhole : Sp := fun vs H Q _ => ∃ (x : V) (d : PyData), vs = [x] ∧ Dt H x d ∧ Q (.bl (whole d)) H
theorem ok_is_whole (T : Tx K mg) : FnG P w K mg base CX0 1 T.a_is_whole T.d_is_whole ["value"] spWhole := by
  refine bodyG0 T.F_is_whole sc_is_whole (fun vs H Q E h => ?_) (fun cdv A outer s H vs Q E gd hr h => ?_)
  · obtain ⟨x, d, rfl, _⟩ := h; rfl
  · obtain ⟨x, d, rfl, hd, q⟩ := h
    refine ⟨_, (pss_one (ps_ret (pe_and (pe_callB call_isD (by rfl) T.z_isinstance (by decide +kernel) (pa_cons (pv 0) (pa_cons (pe_bltn (v := .ty "int") (by rfl) T.z_int (by decide +kernel) rfl) pa_nil))) (pe_one (pe_not (pe_callB call_isD (by rfl) T.z_isinstance (by decide +kernel) (pa_cons (pv 0) (pa_cons (pe_bltn (v := .ty "bool") (by rfl) T.z_bool (by decide +kernel) rfl) pa_nil)))))))), ?_⟩
    refine ⟨_, rfl, x, d, _, _, rfl, hd, kit_int d, _, rfl, ?_⟩
    unfold whole at q
    cases hi : isInt d with
    | true =>
      rw [hi] at q
      exact iteT ⟨_, rfl, x, d, _, _, rfl, hd, kit_bool d, _, rfl, q⟩
    | false =>
      rw [hi] at q
      exact iteF q
def spCountTo : Sp := fun vs H Q _ => ∃ (x : V) (d : PyData) (m : Int), vs = [x, .int m] ∧ Dt H x d ∧ Q (.bl (cnt d m)) H
theorem ok_is_count_to (T : Tx K mg) : FnG P w K mg base CX0 2 T.a_is_count_to T.d_is_count_to ["value", "most"] spCountTo := by
  have G_is_whole := ok_is_whole (P := P) (w := w) (base := base) T
  refine bodyG0 T.F_is_count_to sc_is_count_to (fun vs H Q E h => ?_) (fun cdv A outer s H vs Q E gd hr h => ?_)
  · obtain ⟨x, d, m, rfl, _⟩ := h; rfl
  · obtain ⟨x, d, m, rfl, hd, q⟩ := h
    refine ⟨_, (pss_one (ps_ret (pe_and (pe_g G_is_whole gd (hr.mono (by decide)) (by rfl) T.g_is_whole T.F_is_whole.kp T.b_is_whole .nil pass0 (pa_cons (pv 0) pa_nil)) (pe_one (pe_chain op_le op_le pe_int (pv 0) (pv 1)))))), ?_⟩
    refine ⟨_, rfl, x, d, rfl, hd, _, rfl, ?_⟩
    cases hd with
    | int i =>
      refine iteT ⟨_, rfl, _, _, rfl, rfl, _, rfl, ?_⟩
      have q : Q (.bl (decide (0 ≤ i) && decide (i ≤ m))) H := q
      by_cases h0 : 0 ≤ i
      · rw [decide_eq_true h0] at q ⊢
        exact iteT ⟨_, rfl, _, _, rfl, rfl, q⟩
      · rw [decide_eq_false h0] at q ⊢
        exact iteF q
    | _ => exact iteF q
def spRow : Sp := fun vs H Q _ => ∃ (a : Addr) (l : List Nat) (n : Nat), vs = [.ref a, .int n] ∧ H a = some (.lst (l.map fun (x : Nat) => V.int (x : Int))) ∧ n ≤ 6 ∧ (∀ x ∈ l, x < 2 ^ n) ∧ l.length ≤ 1000000 ∧ ∀ H', Same H H' → Q (.bl true) H'
theorem all_true {α : Type} : ∀ l : List α, (l.map fun _ => true).all id = true
  | [] => rfl
  | _ :: r => by rw [List.map_cons, List.all_cons, all_true r]; rfl
theorem ok_is_row (T : Tx K mg) : FnG P w K mg base CX0 3 T.a_is_row T.d_is_row ["value", "many"] spRow := by
  have G_is_count_to := ok_is_count_to (P := P) (w := w) (base := base) T
  refine bodyG0 T.F_is_row sc_is_row (fun vs H Q E h => ?_) (fun cdv A outer s H vs Q E gd hr h => ?_)
  · obtain ⟨a, l, n, rfl, _⟩ := h; rfl
  · obtain ⟨a, l, n, rfl, ha, hn, hl, hz, q⟩ := h
    refine ⟨_, (pss_one (ps_ret (pe_and (pe_callB call_isD (by rfl) T.z_isinstance (by decide +kernel) (pa_cons (pv 0) (pa_cons (pe_bltn (v := .ty "list") (by rfl) T.z_list (by decide +kernel) rfl) pa_nil))) (pe_one (pe_callB (cr_allK (K := K) rfl rfl) (by rfl) T.z_all (by decide +kernel) (pa_cons (pe_lc (own := [("letter", 2)]) (g := gName 2) (tt := tYes) rfl sc_is_row.nd (pi_list (pv 0)) (blkOk_by (N := ["value", "many", "letter"]) (sc := defScope s_is_row) (by decide +kernel)) (fun _ _ _ _ _ => (pg_name (i := 2) sc_is_row.nd rfl (Or.inl rfl))) (fun _ _ _ _ _ => pts_nil) (fun _ _ _ _ _ => (pe_g G_is_count_to gd (hr.mono (by decide)) (by rfl) T.g_is_count_to T.F_is_count_to.kp T.b_is_count_to .nil pass0 (pa_cons (pv 2) (pa_cons (pe_op op_sub (pe_op op_shlW pe_int (pv 1)) pe_int) pa_nil))))) pa_nil)))))), ?_⟩
    have sq : SqL K H a (l.map fun (x : Nat) => V.int (x : Int)) := .inl (.inl ha)
    have hd : Dt H (.ref a) (.list (l.map fun (x : Nat) => PyData.int (x : Int))) := by
      have := Dt.ints (H := H) (a := a) (l := l.map fun (x : Nat) => (x : Int)) (by rw [List.map_map]; exact ha)
      rw [List.map_map] at this
      exact this
    refine ⟨_, rfl, _, _, _, _, rfl, hd, kit_list _, _, rfl, iteT ?_⟩
    refine ⟨_, rfl, a, rfl, ⟨_, sq⟩, fun D hD => ?_⟩
    refine lc_list (K := K) (a := a) (xs := l.map fun (x : Nat) => V.int (x : Int)) (fun i H' => Same H H' ∧ H' D = some (.lst ((List.range i).map fun _ => V.bl true))) ⟨same_new' hD, upd_same⟩ (fun i H' _ e => e.1.seq sq) ?_ ?_
    · rintro i x H' hi ⟨s1, e1⟩
      obtain ⟨b, hb, rfl⟩ : ∃ b : Nat, l[i]? = some b ∧ V.int (b : Int) = x := by
        rw [List.getElem?_map] at hi
        exact Option.map_eq_some_iff.mp hi
      have il : i < l.length := (List.getElem?_eq_some_iff.mp hb).1
      have bl := hl b (List.mem_of_getElem? hb)
      have e : ((2 ^ n : Nat) : Int) = (2 : Int) ^ n := by rw [Int.natCast_pow]; rfl
      refine ⟨rfl, yes_if ?_⟩
      refine ⟨_, rfl, _, rfl, _, _, rfl, rfl, shl_ok (n := 1) (by decide) (by omega), _, _, rfl, rfl, _, _, _, rfl, .int _, ?_⟩
      have c : cnt (.int (b : Int)) (1 * 2 ^ (n : Int).toNat - 1) = true := by
        show (decide (0 ≤ (b : Int)) && decide ((b : Int) ≤ 1 * 2 ^ (n : Int).toNat - 1)) = true
        rw [decide_eq_true (show 0 ≤ (b : Int) by omega), decide_eq_true (show (b : Int) ≤ 1 * 2 ^ (n : Int).toNat - 1 by rw [Int.toNat_natCast, Int.one_mul]; omega)]
        rfl
      dsimp only
      rw [c]
      exact lcS (f := fun _ => V.bl true) hD s1 e1 (by omega)
    · rintro H' ⟨s1, e1⟩
      refine ⟨D, (List.range (l.map fun (x : Nat) => V.int (x : Int)).length).map fun _ => true, rfl, .inl (.inl ?_), ?_⟩
      · rw [e1, List.map_map]
        rfl
      · rw [all_true]
        exact q _ s1
def spWordOf : Sp := fun vs H Q _ => ∃ n x : Nat, vs = [.int n, .int x] ∧ n ≤ 64 ∧ x < 2 ^ n ∧ Q (.bl true) H
theorem ok_is_word_of (T : Tx K mg) : FnG P w K mg base CX0 3 T.a_is_word_of T.d_is_word_of ["width", "value"] spWordOf := by
  have G_is_count_to := ok_is_count_to (P := P) (w := w) (base := base) T
  refine bodyG0 T.F_is_word_of sc_is_word_of (fun vs H Q E h => ?_) (fun cdv A outer s H vs Q E gd hr h => ?_)
  · obtain ⟨n, x, rfl, _⟩ := h; rfl
  · obtain ⟨n, x, rfl, hn, hx, q⟩ := h
    refine ⟨_, (pss_one (ps_ret (pe_g G_is_count_to gd (hr.mono (by decide)) (by rfl) T.g_is_count_to T.F_is_count_to.kp T.b_is_count_to .nil pass0 (pa_cons (pv 1) (pa_cons (pe_op op_sub (pe_op op_shlW pe_int (pv 0)) pe_int) pa_nil))))), ?_⟩
    refine ⟨_, rfl, _, rfl, _, _, rfl, rfl, shl_ok (n := 1) (by decide) (by omega), _, _, rfl, rfl, _, _, _, rfl, .int _, ?_⟩
    have e : ((2 ^ n : Nat) : Int) = (2 : Int) ^ n := by rw [Int.natCast_pow]; rfl
    have c : cnt (.int (x : Int)) (1 * 2 ^ (n : Int).toNat - 1) = true := by
      show (decide (0 ≤ (x : Int)) && decide ((x : Int) ≤ 1 * 2 ^ (n : Int).toNat - 1)) = true
      rw [decide_eq_true (show 0 ≤ (x : Int) by omega), decide_eq_true (show (x : Int) ≤ 1 * 2 ^ (n : Int).toNat - 1 by rw [Int.toNat_natCast, Int.one_mul]; omega)]
      rfl
    dsimp only
    rw [c]
    exact q
def spCheckTo : Sp := fun vs H Q _ => ∃ n m : Int, vs = [.int n, .int m] ∧ 0 ≤ n ∧ n ≤ m ∧ Q .non H
theorem ok_check_width_to (T : Tx K mg) : FnG P w K mg base CX0 3 T.a_check_width_to T.d_check_width_to ["width", "most"] spCheckTo := by
  have G_is_count_to := ok_is_count_to (P := P) (w := w) (base := base) T
  refine bodyG0 T.F_check_width_to sc_check_width_to (fun vs H Q E h => ?_) (fun cdv A outer s H vs Q E gd hr h => ?_)
  · obtain ⟨n, m, rfl, _⟩ := h; rfl
  · obtain ⟨n, m, rfl, h0, h1, q⟩ := h
    refine ⟨_, (pss_one (ps_if (pt_not (pt_val (pe_g G_is_count_to gd (hr.mono (by decide)) (by rfl) T.g_is_count_to T.F_is_count_to.kp T.b_is_count_to .nil pass0 (pa_cons (pv 0) (pa_cons (pv 1) pa_nil))))) (pss_one ps_never) pss_nil)), ?_⟩
    refine ⟨_, rfl, _, rfl, _, _, m, rfl, .int n, ?_⟩
    have c : cnt (.int n) m = true := by
      show (decide (0 ≤ n) && decide (n ≤ m)) = true
      rw [decide_eq_true h0, decide_eq_true h1]; rfl
    rw [c]
    exact ⟨true, rfl, iteF q⟩
def spCheck : Sp := fun vs H Q _ => ∃ n : Nat, vs = [.int n] ∧ n ≤ 64 ∧ Q .non H
theorem ok_check_width (T : Tx K mg) : FnG P w K mg base CX0 4 T.a_check_width T.d_check_width ["width"] spCheck := by
  have G_check_width_to := ok_check_width_to (P := P) (w := w) (base := base) T
  refine bodyG0 T.F_check_width sc_check_width (fun vs H Q E h => ?_) (fun cdv A outer s H vs Q E gd hr h => ?_)
  · obtain ⟨n, rfl, _⟩ := h; rfl
  · obtain ⟨n, rfl, hn, q⟩ := h
    refine ⟨_, (pss_one (ps_expr (pe_g G_check_width_to gd (hr.mono (by decide)) (by rfl) T.g_check_width_to T.F_check_width_to.kp T.b_check_width_to .nil pass0 (pa_cons (pv 0) (pa_cons (C8.pe_gc (by rfl) T.c_MOST_WIDTH) pa_nil))))), ?_⟩
    exact ⟨_, rfl, n, 64, rfl, by omega, by omega, q⟩
def spCheckMany : Sp := fun vs H Q _ => ∃ n : Nat, vs = [.int n] ∧ n ≤ 6 ∧ Q .non H
theorem ok_check_many (T : Tx K mg) : FnG P w K mg base CX0 3 T.a_check_many T.d_check_many ["many"] spCheckMany := by
  have G_is_count_to := ok_is_count_to (P := P) (w := w) (base := base) T
  refine bodyG0 T.F_check_many sc_check_many (fun vs H Q E h => ?_) (fun cdv A outer s H vs Q E gd hr h => ?_)
  · obtain ⟨n, rfl, _⟩ := h; rfl
  · obtain ⟨n, rfl, hn, q⟩ := h
    refine ⟨_, (pss_one (ps_if (pt_not (pt_val (pe_g G_is_count_to gd (hr.mono (by decide)) (by rfl) T.g_is_count_to T.F_is_count_to.kp T.b_is_count_to .nil pass0 (pa_cons (pv 0) (pa_cons (C8.pe_gc (by rfl) T.c_MOST_NAMES) pa_nil))))) (pss_one ps_never) pss_nil)), ?_⟩
    refine ⟨_, rfl, _, _, 6, rfl, .int _, ?_⟩
    have c : cnt (.int (n : Int)) 6 = true := by
      show (decide (0 ≤ (n : Int)) && decide ((n : Int) ≤ 6)) = true
      rw [decide_eq_true (show 0 ≤ (n : Int) by omega), decide_eq_true (show (n : Int) ≤ 6 by omega)]; rfl
    rw [c]
    exact ⟨true, rfl, iteF q⟩
def spCheckRow : Sp := fun vs H Q _ => ∃ (a : Addr) (l : List Nat) (n : Nat), vs = [.int n, .ref a] ∧ H a = some (.lst (l.map fun (x : Nat) => V.int (x : Int))) ∧ n ≤ 6 ∧ (∀ x ∈ l, x < 2 ^ n) ∧ l.length ≤ 1000000 ∧ ∀ H', Same H H' → Q .non H'
theorem ok_check_row (T : Tx K mg) : FnG P w K mg base CX0 4 T.a_check_row T.d_check_row ["many", "row"] spCheckRow := by
  have G_is_row := ok_is_row (P := P) (w := w) (base := base) T
  refine bodyG0 T.F_check_row sc_check_row (fun vs H Q E h => ?_) (fun cdv A outer s H vs Q E gd hr h => ?_)
  · obtain ⟨a, l, n, rfl, _⟩ := h; rfl
  · obtain ⟨a, l, n, rfl, ha, hn, hl, hz, q⟩ := h
    refine ⟨_, (pss_one (ps_if (pt_not (pt_val (pe_g G_is_row gd (hr.mono (by decide)) (by rfl) T.g_is_row T.F_is_row.kp T.b_is_row .nil pass0 (pa_cons (pv 1) (pa_cons (pv 0) pa_nil))))) (pss_one ps_never) pss_nil)), ?_⟩
    exact ⟨_, rfl, _, rfl, a, l, n, rfl, ha, hn, hl, hz, fun H' e => ⟨true, rfl, iteF (q H' e)⟩⟩
def stepB (d : PyData) (size stands : Int) : Bool := match d with
  | .list ds => decide ((ds.length : Int) = size) && ds.all fun x => cnt x (stands - 1)
  | _ => false
def spStep : Sp := fun vs H Q _ => ∃ (x : V) (d : PyData) (size stands : Int), vs = [x, .int size, .int stands] ∧ Dt H x d ∧ Nice d ∧ ∀ H', Same H H' → Q (.bl (stepB d size stands)) H'
theorem len_of_nice {ds : List PyData} (h : Nice (.list ds)) : ds.length ≤ 262144 := by
  have key : ∀ l : List PyData, l.length ≤ PyData.bulkAll l := by
    intro l
    induction l with
    | nil => exact Nat.zero_le _
    | cons x r ih =>
      simp only [PyData.bulkAll, List.length_cons]
      omega
  have := h.small
  simp only [PyData.bulk] at this
  exact Nat.le_trans (key ds) this
theorem ok_is_step (T : Tx K mg) : FnG P w K mg base CX0 3 T.a_is_step T.d_is_step ["value", "size", "stands"] spStep := by
  have G_is_count_to := ok_is_count_to (P := P) (w := w) (base := base) T
  refine bodyG0 T.F_is_step sc_is_step (fun vs H Q E h => ?_) (fun cdv A outer s H vs Q E gd hr h => ?_)
  · obtain ⟨x, d, size, stands, rfl, _⟩ := h; rfl
  · obtain ⟨x, d, size, stands, rfl, hd, nd, q⟩ := h
    refine ⟨_, (pss_cons (ps_if (PW.pt (pw_or (pt_not (pt_val (pe_callB call_isD (by rfl) T.z_isinstance (by decide +kernel) (pa_cons (pv 0) (pa_cons (pe_bltn (v := .ty "list") (by rfl) T.z_list (by decide +kernel) rfl) pa_nil))))) (pw_or1 (pt_cmpR op_ne (pe_callB (call_lenK (K := K) rfl) (by rfl) T.z_len (by decide +kernel) (pa_cons (pv 0) pa_nil)) (pv 1) (nomark _))))) (pss_one (ps_ret pe_bl)) pss_nil)
      (pss_one (ps_ret (pe_callB (cr_allK (K := K) rfl rfl) (by rfl) T.z_all (by decide +kernel) (pa_cons (pe_lc (own := [("stand", 3)]) (g := gName 3) (tt := tYes) rfl sc_is_step.nd (pi_list (pv 0)) (blkOk_by (N := ["value", "size", "stands", "stand"]) (sc := defScope s_is_step) (by decide +kernel)) (fun _ _ _ _ _ => (pg_name (i := 3) sc_is_step.nd rfl (Or.inl rfl))) (fun _ _ _ _ _ => pts_nil) (fun _ _ _ _ _ => (pe_g G_is_count_to gd (hr.mono (by decide)) (by rfl) T.g_is_count_to T.F_is_count_to.kp T.b_is_count_to .nil pass0 (pa_cons (pv 3) (pa_cons (pe_op op_sub (pv 2) pe_int) pa_nil))))) pa_nil))))), ?_⟩
    refine ⟨_, rfl, x, d, _, _, rfl, hd, kit_list d, _, rfl, ?_⟩
    cases hd with
    | @lst a xs ds ha hs =>
      have sq : SqL K H a xs := .inl (.inl ha)
      have hlen : xs.length = ds.length := hs.len
      have hz := len_of_nice nd
      refine iteF ⟨_, rfl, a, xs, rfl, .inl sq, _, rfl, rfl, _, rfl, ?_⟩
      have q : ∀ H', Same H H' → Q (.bl (decide ((ds.length : Int) = size) && ds.all fun x => cnt x (stands - 1))) H' := q
      rw [vi, hlen]
      by_cases hsz : (ds.length : Int) = size
      · rw [decide_eq_true hsz] at q ⊢
        refine iteF ⟨_, rfl, a, rfl, ⟨_, sq⟩, fun D hD => ?_⟩
        let f : Nat → Bool := fun i => match ds[i]? with
          | some y => cnt y (stands - 1)
          | none => false
        refine lc_list (K := K) (a := a) (xs := xs) (fun i H' => Same H H' ∧ H' D = some (.lst ((List.range i).map fun i => V.bl (f i)))) ⟨same_new' hD, upd_same⟩ (fun i H' _ e => e.1.seq sq) ?_ ?_
        · rintro i y H' hi ⟨s1, e1⟩
          obtain ⟨c, hc, hy⟩ := hs.get i y hi
          have il : i < xs.length := (List.getElem?_eq_some_iff.mp hi).1
          refine ⟨rfl, yes_if ?_⟩
          refine ⟨_, rfl, _, rfl, _, _, rfl, rfl, y, c, _, rfl, hy.to s1, ?_⟩
          have ef : f i = cnt c (stands - 1) := by
            show (match ds[i]? with
              | some y => cnt y (stands - 1)
              | none => false) = _
            rw [hc]
          dsimp only
          rw [← ef]
          exact lcS (f := fun i => V.bl (f i)) hD s1 e1 (by omega)
        · rintro H' ⟨s1, e1⟩
          refine ⟨D, (List.range xs.length).map f, rfl, .inl (.inl ?_), ?_⟩
          · rw [e1, List.map_map]
            rfl
          · have e : ((List.range xs.length).map f).all id = ds.all fun x => cnt x (stands - 1) := by
              rw [hlen, Bool.eq_iff_iff, List.all_eq_true, List.all_eq_true]
              constructor
              · intro h y hy
                obtain ⟨i, hi, e⟩ := List.getElem_of_mem hy
                have h2 := h (f i) (List.mem_map.mpr ⟨i, List.mem_range.mpr hi, rfl⟩)
                have ef : f i = cnt y (stands - 1) := by
                  show (match ds[i]? with
                    | some y => cnt y (stands - 1)
                    | none => false) = _
                  rw [List.getElem?_eq_getElem hi, e]
                rw [← ef]
                exact h2
              · intro h b hb
                obtain ⟨i, hi, rfl⟩ := List.mem_map.mp hb
                have hi := List.mem_range.mp hi
                show (match ds[i]? with
                    | some y => cnt y (stands - 1)
                    | none => false) = true
                rw [List.getElem?_eq_getElem hi]
                exact h _ (List.getElem_mem hi)
            rw [e]
            exact q _ s1
      · rw [decide_eq_false hsz] at q ⊢
        exact iteT (q H (Same.refl H))
    | _ => exact iteT (q H (Same.refl H))
end

end K13

set_option Elab.async false
set_option linter.all false
set_option maxRecDepth 100000
set_option maxHeartbeats 4000000
namespace K13
open PySem PySem.Spec PyProof.Rows L2 Hw

def wh : PyData → Int
  | .int k => k
  | _ => 0
def items : PyData → List PyData
  | .list ds => ds
  | _ => []
def tabL (k : Int) (ss es : List PyData) : Bool := !decide ((ss.length : Int) = 0) && (decide ((ss.length : Int) = es.length) && (es.all isBool && ss.all fun x => stepB x (1 * 2 ^ k.toNat) ss.length))
def tab3 (m s e : PyData) : Bool := cnt m 6 && (isList s && (isList e && tabL (wh m) (items s) (items e)))
def tabB (d : PyData) : Bool := match d with
  | .tuple [m, s, e] => tab3 m s e
  | _ => false
theorem tabB_len {ds : List PyData} (h : ¬ (ds.length : Int) = 3) : tabB (.tuple ds) = false := by
  match ds, h with
  | [], _ => rfl
  | [_], _ => rfl
  | [_, _], _ => rfl
  | [_, _, _], h => exact absurd rfl h
  | _ :: _ :: _ :: _ :: _, _ => rfl
section
variable {P : Program} {w : World} {K : PySem.W.Frag} {mg : Str → Option Value} {base : Heap}
def spForm : Sp := fun vs H Q _ => ∃ (x : V) (d : PyData), vs = [x] ∧ Dt H x d ∧ (isTuple d = true → Nice d) ∧ ∀ H', Same H H' → Q (.bl (tabB d)) H'
theorem ok_is_table_form (T : Tx K mg) : FnG P w K mg base CX0 4 T.a_is_table_form T.d_is_table_form ["value"] spForm := by
  have G_is_count_to := ok_is_count_to (P := P) (w := w) (base := base) T
  have G_is_step := ok_is_step (P := P) (w := w) (base := base) T
  refine bodyG0 T.F_is_table_form sc_is_table_form (fun vs H Q E h => ?_) (fun cdv A outer s H vs Q E gd hr h => ?_)
  · obtain ⟨x, d, rfl, _⟩ := h; rfl
  · obtain ⟨x, d, rfl, hd, nd, q⟩ := h
    refine ⟨_, (pss_cons (ps_if (PW.pt (pw_or (pt_not (pt_val (pe_callB call_isD (by rfl) T.z_isinstance (by decide +kernel) (pa_cons (pv 0) (pa_cons (pe_bltn (v := .ty "tuple") (by rfl) T.z_tuple (by decide +kernel) rfl) pa_nil))))) (pw_or1 (pt_cmpR op_ne (pe_callB (call_lenK (K := K) rfl) (by rfl) T.z_len (by decide +kernel) (pa_cons (pv 0) pa_nil)) pe_int (nomark _))))) (pss_one (ps_ret pe_bl)) pss_nil)
      (pss_cons (ps_asg (pv 0) (pg_tup (by rfl) (pgs_cons (pg_name (i := 1) sc_is_table_form.nd rfl (Or.inr rfl)) (pgs_cons (pg_name (i := 2) sc_is_table_form.nd rfl (Or.inr rfl)) (pgs_cons (pg_name (i := 3) sc_is_table_form.nd rfl (Or.inl rfl)) pgs_nil)))))
      (pss_cons (ps_if (PW.pt (pw_or (pt_not (pt_val (pe_g G_is_count_to gd (hr.mono (by decide)) (by rfl) T.g_is_count_to T.F_is_count_to.kp T.b_is_count_to .nil pass0 (pa_cons (pv 1) (pa_cons (C8.pe_gc (by rfl) T.c_MOST_NAMES) pa_nil))))) (pw_or (pt_not (pt_val (pe_callB call_isD (by rfl) T.z_isinstance (by decide +kernel) (pa_cons (pv 2) (pa_cons (pe_bltn (v := .ty "list") (by rfl) T.z_list (by decide +kernel) rfl) pa_nil))))) (pw_or1 (pt_not (pt_val (pe_callB call_isD (by rfl) T.z_isinstance (by decide +kernel) (pa_cons (pv 3) (pa_cons (pe_bltn (v := .ty "list") (by rfl) T.z_list (by decide +kernel) rfl) pa_nil))))))))) (pss_one (ps_ret pe_bl)) pss_nil)
      (pss_cons (ps_if (PW.pt (pw_or (pt_cmpR op_eq (pe_callB (call_lenK (K := K) rfl) (by rfl) T.z_len (by decide +kernel) (pa_cons (pv 2) pa_nil)) pe_int (nomark _)) (pw_or1 (pt_cmpR op_ne (pe_callB (call_lenK (K := K) rfl) (by rfl) T.z_len (by decide +kernel) (pa_cons (pv 2) pa_nil)) (pe_callB (call_lenK (K := K) rfl) (by rfl) T.z_len (by decide +kernel) (pa_cons (pv 3) pa_nil)) (nomark _))))) (pss_one (ps_ret pe_bl)) pss_nil)
      (pss_cons (ps_if (pt_not (pt_val (pe_callB (cr_allK (K := K) rfl rfl) (by rfl) T.z_all (by decide +kernel) (pa_cons (pe_lc (own := [("end", 5)]) (g := gName 5) (tt := tYes) rfl sc_is_table_form.nd (pi_list (pv 3)) (blkOk_by (N := ["value", "many", "steps", "ends", "step", "end"]) (sc := defScope s_is_table_form) (by decide +kernel)) (fun _ _ _ _ _ => (pg_name (i := 5) sc_is_table_form.nd rfl (Or.inl rfl))) (fun _ _ _ _ _ => pts_nil) (fun _ _ _ _ _ => (pe_callB call_isD (by rfl) T.z_isinstance (by decide +kernel) (pa_cons (pv 5) (pa_cons (pe_bltn (v := .ty "bool") (by rfl) T.z_bool (by decide +kernel) rfl) pa_nil))))) pa_nil)))) (pss_one (ps_ret pe_bl)) pss_nil)
      (pss_one (ps_ret (pe_callB (cr_allK (K := K) rfl rfl) (by rfl) T.z_all (by decide +kernel) (pa_cons (pe_lc (own := [("step", 4)]) (g := gName 4) (tt := tYes) rfl sc_is_table_form.nd (pi_list (pv 2)) (blkOk_by (N := ["value", "many", "steps", "ends", "step", "end"]) (sc := defScope s_is_table_form) (by decide +kernel)) (fun _ _ _ _ _ => (pg_name (i := 4) sc_is_table_form.nd rfl (Or.inl rfl))) (fun _ _ _ _ _ => pts_nil) (fun _ _ _ _ _ => (pe_g G_is_step gd (hr.mono (by decide)) (by rfl) T.g_is_step T.F_is_step.kp T.b_is_step .nil pass0 (pa_cons (pv 4) (pa_cons (pe_op op_shlW pe_int (pv 1)) (pa_cons (pe_callB (call_lenK (K := K) rfl) (by rfl) T.z_len (by decide +kernel) (pa_cons (pv 2) pa_nil)) pa_nil)))))) pa_nil))))))))), ?_⟩
    refine ⟨_, rfl, x, d, _, _, rfl, hd, kit_tuple d, _, rfl, ?_⟩
    cases hd with
    | @tup a xs ds ha hs =>
      have nd := nd rfl
      have sq : SqT K H a xs := .inl (.inl ha)
      refine iteF ⟨_, rfl, a, xs, rfl, .inr sq, rfl, _, rfl, ?_⟩
      rw [vi, hs.len]
      by_cases h3 : (ds.length : Int) = 3
      · rw [decide_eq_true h3]
        refine iteF ?_
        obtain ⟨m, st, en, rfl⟩ : ∃ m st en, ds = [m, st, en] := by
          match ds, h3 with
          | [m, st, en], _ => exact ⟨m, st, en, rfl⟩
          | [], h => simp at h
          | [_], h => simp at h
          | [_, _], h => simp at h
          | _ :: _ :: _ :: _ :: r, h => simp only [List.length_cons] at h; omega
        cases hs with
        | @cons vm _ _ _ hm hs =>
        cases hs with
        | @cons vst _ _ _ hst hs =>
        cases hs with
        | @cons ven _ _ _ hen hs =>
        cases hs with
        | nil =>
        have nst : Nice st := nd.tupMem st (by simp)
        have nen : Nice en := nd.tupMem en (by simp)
        refine ⟨_, rfl, a, _, rfl, sq, rfl, vm, _, rfl, vst, _, rfl, ven, _, rfl, rfl, ?_⟩
        have q : ∀ H', Same H H' → Q (.bl (cnt m 6 && (isList st && (isList en && tabL (wh m) (items st) (items en))))) H' := q
        refine ⟨_, rfl, vm, m, 6, rfl, hm, _, rfl, ?_⟩
        cases hm6 : cnt m 6 with
        | false =>
          rw [hm6] at q
          exact iteT (q H (Same.refl H))
        | true =>
          rw [hm6] at q
          refine iteF ⟨_, rfl, vst, st, _, _, rfl, hst, kit_list st, _, rfl, ?_⟩
          cases hst with
          | @lst b ys ss hb hss =>
            refine iteF ⟨_, rfl, ven, en, _, _, rfl, hen, kit_list en, _, rfl, ?_⟩
            cases hen with
            | @lst c zs es hc hes =>
              have sqb : SqL K H b ys := .inl (.inl hb)
              have sqc : SqL K H c zs := .inl (.inl hc)
              obtain ⟨k, rfl, k6⟩ : ∃ k : Nat, m = .int (k : Int) ∧ k ≤ 6 := by
                cases m with
                | int k =>
                  have z : (decide (0 ≤ k) && decide (k ≤ 6)) = true := hm6
                  obtain ⟨z1, z2⟩ := Bool.and_eq_true_iff.mp z
                  have z1 := of_decide_eq_true z1
                  have z2 := of_decide_eq_true z2
                  exact ⟨k.toNat, by rw [Int.toNat_of_nonneg z1], by omega⟩
                | _ => cases hm6
              cases hm
              have q : ∀ H', Same H H' → Q (.bl (!decide ((ss.length : Int) = 0) && (decide ((ss.length : Int) = es.length) && (es.all isBool && ss.all fun x => stepB x (1 * 2 ^ (k : Int).toNat) ss.length)))) H' := q
              refine iteF ⟨_, rfl, b, ys, rfl, .inl sqb, rfl, _, rfl, ?_⟩
              rw [vi, hss.len]
              by_cases h0 : (ss.length : Int) = 0
              · rw [decide_eq_true h0] at q ⊢
                exact iteT (q H (Same.refl H))
              rw [decide_eq_false h0] at q ⊢
              refine iteF ⟨_, rfl, b, ys, rfl, .inl sqb, _, rfl, c, zs, rfl, .inl sqc, rfl, _, rfl, ?_⟩
              rw [vi, hss.len, hes.len]
              by_cases hl : (ss.length : Int) = es.length
              · rw [decide_eq_true hl] at q ⊢
                have ze := len_of_nice nen
                have zs' := len_of_nice nst
                have le := hes.len
                have ls := hss.len
                refine iteF ⟨_, rfl, c, rfl, ⟨_, sqc⟩, fun D hD => ?_⟩
                refine lc_list (K := K) (a := c) (xs := zs) (fun i H' => Same H H' ∧ H' D = some (.lst ((List.range i).map fun i => V.bl (atF es isBool i)))) ⟨same_new' hD, upd_same⟩ (fun i H' _ e => e.1.seq sqc) ?_ ?_
                · rintro i y H' hi ⟨s1, e1⟩
                  obtain ⟨d, hdi, hy⟩ := hes.get i y hi
                  have il : i < zs.length := (List.getElem?_eq_some_iff.mp hi).1
                  refine ⟨rfl, yes_if ?_⟩
                  refine ⟨_, rfl, y, d, _, _, rfl, hy.to s1, kit_bool d, ?_⟩
                  rw [← atF_at (g := isBool) hdi]
                  exact lcS (f := fun i => V.bl (atF es isBool i)) hD s1 e1 (by omega)
                · rintro H' ⟨s1, e1⟩
                  refine ⟨D, (List.range zs.length).map (atF es isBool), rfl, .inl (.inl ?_), _, rfl, ?_⟩
                  · rw [e1, List.map_map]
                    rfl
                  rw [le, all_atF]
                  cases hb2 : es.all isBool with
                  | false =>
                    rw [hb2] at q
                    exact iteT (q H' s1)
                  | true =>
                    rw [hb2] at q
                    have sqb' := s1.seq sqb
                    refine iteF ⟨_, rfl, b, rfl, ⟨_, sqb'⟩, fun D2 hD2 => ?_⟩
                    refine lc_list (K := K) (a := b) (xs := ys) (fun i H2 => Same H' H2 ∧ H2 D2 = some (.lst ((List.range i).map fun i => V.bl (atF ss (fun x => stepB x (1 * 2 ^ (k : Int).toNat) ss.length) i)))) ⟨same_new' hD2, upd_same⟩ (fun i H2 _ e => e.1.seq sqb') ?_ ?_
                    · rintro i y H2 hi ⟨s2, e2⟩
                      obtain ⟨d, hdi, hy⟩ := hss.get i y hi
                      have il : i < ys.length := (List.getElem?_eq_some_iff.mp hi).1
                      have nl := nst.listMem d (List.mem_of_getElem? hdi)
                      refine ⟨rfl, yes_if ?_⟩
                      refine ⟨_, rfl, _, rfl, _, _, rfl, rfl, shl_ok (n := 1) (by decide) (by omega), _, rfl, b, ys, rfl, .inl (s2.seq sqb'), y, d, _, _, rfl, hy.to (s1.trans s2), nl, fun H3 s3 => ?_⟩
                      rw [ls, ← atF_at (g := fun x => stepB x (1 * 2 ^ (k : Int).toNat) ss.length) hdi]
                      exact lcS (f := fun i => V.bl (atF ss (fun x => stepB x (1 * 2 ^ (k : Int).toNat) ss.length) i)) hD2 (s2.trans s3) (s3 _ _ e2) (by omega)
                    · rintro H2 ⟨s2, e2⟩
                      refine ⟨D2, (List.range ys.length).map (atF ss fun x => stepB x (1 * 2 ^ (k : Int).toNat) ss.length), rfl, .inl (.inl ?_), ?_⟩
                      · rw [e2, List.map_map]
                        rfl
                      rw [ls, all_atF]
                      exact q H2 (s1.trans s2)
              · rw [decide_eq_false hl] at q ⊢
                exact iteT (q H (Same.refl H))
            | _ => exact iteT (q H (Same.refl H))
          | _ => exact iteT (q H (Same.refl H))
      · rw [tabB_len h3] at q
        rw [decide_eq_false h3]
        exact iteT (q H (Same.refl H))
    | _ => exact iteT (q H (Same.refl H))
theorem ok_is_table (T : Tx K mg) : FnG P w K mg base CX0 5 T.a_is_table T.d_is_table ["value"] spForm := by
  have G_is_table_form := ok_is_table_form (P := P) (w := w) (base := base) T
  refine bodyG0 T.F_is_table sc_is_table (fun vs H Q E h => ?_) (fun cdv A outer s H vs Q E gd hr h => ?_)
  · obtain ⟨x, d, rfl, _⟩ := h; rfl
  · obtain ⟨x, d, rfl, hd, nd, q⟩ := h
    refine ⟨_, (pss_one (ps_ret (pe_g G_is_table_form gd (hr.mono (by decide)) (by rfl) T.g_is_table_form T.F_is_table_form.kp T.b_is_table_form .nil pass0 (pa_cons (pv 0) pa_nil)))), ?_⟩
    exact ⟨_, rfl, x, d, rfl, hd, nd, q⟩
def spCheckTable : Sp := fun vs H Q _ => ∃ (x : V) (d : PyData), vs = [x] ∧ Dt H x d ∧ Nice d ∧ tabB d = true ∧ ∀ H', Same H H' → Q .non H'
theorem ok_check_table (T : Tx K mg) : FnG P w K mg base CX0 5 T.a_check_table T.d_check_table ["table"] spCheckTable := by
  have G_is_table_form := ok_is_table_form (P := P) (w := w) (base := base) T
  refine bodyG0 T.F_check_table sc_check_table (fun vs H Q E h => ?_) (fun cdv A outer s H vs Q E gd hr h => ?_)
  · obtain ⟨x, d, rfl, _⟩ := h; rfl
  · obtain ⟨x, d, rfl, hd, nd, ht, q⟩ := h
    refine ⟨_, (pss_one (ps_if (pt_not (pt_val (pe_g G_is_table_form gd (hr.mono (by decide)) (by rfl) T.g_is_table_form T.F_is_table_form.kp T.b_is_table_form .nil pass0 (pa_cons (pv 0) pa_nil)))) (pss_one ps_never) pss_nil)), ?_⟩
    refine ⟨_, rfl, x, d, rfl, hd, fun _ => nd, fun H' e => ?_⟩
    rw [ht]
    exact ⟨true, rfl, iteF (q H' e)⟩
end

end K13

set_option Elab.async false
set_option linter.all false
set_option maxRecDepth 100000
set_option maxHeartbeats 4000000
namespace K13
open PySem PySem.Spec PyProof.Rows L2 Hw

theorem bitAnd_m1' (a : Int) : Builtin.bitAnd a 1 = a % 2 := bitAnd_m1 a
section
variable {P : Program} {w : World} {K : PySem.W.Frag} {mg : Str → Option Value} {base : Heap}
def spTwo : Sp := fun vs H Q _ => ∃ n : Nat, vs = [.int n] ∧ n ≤ 1000 ∧ Q (.int ((2 ^ n : Nat) : Int)) H
theorem ok_law_two (T : Tx K mg) : FnG P w K mg base CX0 1 T.a_law_two T.d_law_two ["_law_many"] spTwo := by
  refine bodyG0 T.F_law_two sc_law_two (fun vs H Q E h => ?_) (fun cdv A outer s H vs Q E gd hr h => ?_)
  · obtain ⟨n, rfl, _⟩ := h; rfl
  · obtain ⟨n, rfl, hn, q⟩ := h
    refine ⟨_, (pss_one (ps_ret (pe_op op_shlW pe_int (pe_callTy call_int1 (by rfl) T.z_int (by decide +kernel) (pa_cons (pv 0) pa_nil))))), ?_⟩
    refine ⟨_, rfl, .inl ⟨_, rfl, _, _, rfl, rfl, shl_ok (n := 1) (by decide) (by omega), ?_⟩⟩
    dsimp only
    rw [Int.toNat_natCast, Int.one_mul]
    rw [Int.natCast_pow] at q
    exact q
/-- the stand behind a row of letters -/
def spAfter (K : PySem.W.Frag) : Sp := fun vs H Q _ => ∃ (x : V) (t : Tb) (y : Addr) (l : List Nat), vs = [x, .ref y] ∧ Dt H x t.d ∧ t.Good ∧ H y = some (.lst (natV l)) ∧ (∀ c ∈ l, c < 2 ^ t.many) ∧ Q (.int (t.behind l : Nat)) H

theorem ok_stand_after (T : Tx K mg) : FnG P w K mg base CX0 1 T.a_stand_after T.d_stand_after ["table", "row"] (spAfter K) := by
  refine bodyG0 T.F_stand_after sc_stand_after (fun vs H Q E h => ?_) (fun cdv A outer s H vs Q E gd hr h => ?_)
  · obtain ⟨x, t, y, l, rfl, _⟩ := h; rfl
  · obtain ⟨x, t, y, l, rfl, hx, g, hy, hl, q⟩ := h
    refine ⟨_, (pss_cons (ps_set (i := 2) sc_stand_after.nd rfl (Or.inl rfl) pe_int)
      (pss_cons (ps_for PassesOwn.never rfl (pi_list (pv 1)) (pg_name (i := 3) sc_stand_after.nd rfl (Or.inl rfl)) (pss_one (ps_set (i := 2) sc_stand_after.nd rfl (Or.inl rfl) (pe_ix (ix_listK (K := K) rfl) (pe_ix (ix_listK (K := K) rfl) (pe_ix (ix_tupK (K := K) rfl) (pv 0) pe_int (fun _ _ => rfl)) (pv 2) (fun _ _ => rfl)) (pv 3) (fun _ _ => rfl)))))
      (pss_one (ps_ret (pv 2))))), ?_⟩
    obtain ⟨a, b, c, ys, rfl, ha, hb, hyl, hrow, hc, _⟩ := hx.tab
    have sa : SqT K H a [.int (t.many : Int), .ref b, .ref c] := .inl (.inl ha)
    have sb : SqL K H b ys := .inl (.inl hb)
    refine ⟨_, rfl, y, rfl, ⟨_, .inl (.inl hy)⟩, ?_⟩
    refine for_list (K := K) (a := y) (xs := natV l) (fun i σ H' => H' = H ∧ ∃ z : Option V, σ = [some (.ref a), some (.ref y), some (.int (t.behind (l.take i) : Nat)), z]) ⟨rfl, none, rfl⟩ (fun i σ H' _ e => by rw [e.1]; exact .inl (.inl hy)) ?_ ?_
    · rintro i v σ H' hi ⟨rfl, z, rfl⟩
      obtain ⟨d, hd, rfl⟩ := nat_get hi
      have bs : t.behind (l.take i) < t.steps.length := g.behind _ 0 g.some fun x hx => hl x (List.mem_of_mem_take hx)
      obtain ⟨line, h1, h2, _⟩ := g.next bs (hl d (List.mem_of_getElem? hd))
      obtain ⟨r, hr1, hr2⟩ := hrow _ _ h1
      refine ⟨_, rfl, a, _, 1, _, rfl, rfl, sa, rfl, _, rfl, b, _, _, _, rfl, rfl, sb, atI_nat hr1, _, rfl, r, _, _, _, rfl, rfl, .inl (.inl hr2), atI_nat (nat_at h2), rfl, some (.int (d : Int)), ?_⟩
      rw [Tb.behind_take hd]
      rfl
    · rintro σ H' ⟨rfl, z, rfl⟩
      rw [show (natV l).length = l.length from List.length_map .., List.take_length]
      exact ⟨_, rfl, q⟩

theorem ok_law_behind (T : Tx K mg) : FnG P w K mg base CX0 1 T.a_law_behind T.d_law_behind ["_law_known", "_law_row_there"] (spAfter K) := by
  refine bodyG0 T.F_law_behind sc_law_behind (fun vs H Q E h => ?_) (fun cdv A outer s H vs Q E gd hr h => ?_)
  · obtain ⟨x, t, y, l, rfl, _⟩ := h; rfl
  · obtain ⟨x, t, y, l, rfl, hx, g, hy, hl, q⟩ := h
    refine ⟨_, (pss_cons (ps_set (i := 2) sc_law_behind.nd rfl (Or.inl rfl) pe_int)
      (pss_cons (ps_for PassesOwn.never rfl (pi_list (pv 1)) (pg_name (i := 3) sc_law_behind.nd rfl (Or.inl rfl)) (pss_one (ps_set (i := 2) sc_law_behind.nd rfl (Or.inl rfl) (pe_ix (ix_listK (K := K) rfl) (pe_ix (ix_listK (K := K) rfl) (pe_ix (ix_tupK (K := K) rfl) (pv 0) pe_int (fun _ _ => rfl)) (pv 2) (fun _ _ => rfl)) (pv 3) (fun _ _ => rfl)))))
      (pss_one (ps_ret (pv 2))))), ?_⟩
    obtain ⟨a, b, c, ys, rfl, ha, hb, hyl, hrow, hc, _⟩ := hx.tab
    have sa : SqT K H a [.int (t.many : Int), .ref b, .ref c] := .inl (.inl ha)
    have sb : SqL K H b ys := .inl (.inl hb)
    refine ⟨_, rfl, y, rfl, ⟨_, .inl (.inl hy)⟩, ?_⟩
    refine for_list (K := K) (a := y) (xs := natV l) (fun i σ H' => H' = H ∧ ∃ z : Option V, σ = [some (.ref a), some (.ref y), some (.int (t.behind (l.take i) : Nat)), z]) ⟨rfl, none, rfl⟩ (fun i σ H' _ e => by rw [e.1]; exact .inl (.inl hy)) ?_ ?_
    · rintro i v σ H' hi ⟨rfl, z, rfl⟩
      obtain ⟨d, hd, rfl⟩ := nat_get hi
      have bs : t.behind (l.take i) < t.steps.length := g.behind _ 0 g.some fun x hx => hl x (List.mem_of_mem_take hx)
      obtain ⟨line, h1, h2, _⟩ := g.next bs (hl d (List.mem_of_getElem? hd))
      obtain ⟨r, hr1, hr2⟩ := hrow _ _ h1
      refine ⟨_, rfl, a, _, 1, _, rfl, rfl, sa, rfl, _, rfl, b, _, _, _, rfl, rfl, sb, atI_nat hr1, _, rfl, r, _, _, _, rfl, rfl, .inl (.inl hr2), atI_nat (nat_at h2), rfl, some (.int (d : Int)), ?_⟩
      rw [Tb.behind_take hd]
      rfl
    · rintro σ H' ⟨rfl, z, rfl⟩
      rw [show (natV l).length = l.length from List.length_map .., List.take_length]
      exact ⟨_, rfl, q⟩

def Tb.takes (t : Tb) (l : List Nat) : Bool := t.ends.getD (t.behind l) false
theorem takes_at {t : Tb} (g : t.Good) {l : List Nat} (hl : ∀ c ∈ l, c < 2 ^ t.many) : (t.ends.map V.bl)[t.behind l]? = some (.bl (Tb.takes t l)) := by
  have bs : t.behind l < t.steps.length := g.behind l 0 g.some hl
  have bs : t.behind l < t.ends.length := by rw [g.same]; exact bs
  unfold Tb.takes
  rw [List.getElem?_map, List.getD_eq_getElem?_getD, List.getElem?_eq_getElem bs]
  rfl
def spTakes : Sp := fun vs H Q _ => ∃ (x : V) (t : Tb) (y : Addr) (l : List Nat), vs = [x, .ref y] ∧ Dt H x t.d ∧ t.Good ∧ H y = some (.lst (natV l)) ∧ (∀ c ∈ l, c < 2 ^ t.many) ∧ Q (.bl (Tb.takes t l)) H
theorem ok_law_takes (T : Tx K mg) : FnG P w K mg base CX0 2 T.a_law_takes T.d_law_takes ["_law_known", "_law_row_there"] spTakes := by
  have G_law_behind := ok_law_behind (P := P) (w := w) (base := base) T
  refine bodyG0 T.F_law_takes sc_law_takes (fun vs H Q E h => ?_) (fun cdv A outer s H vs Q E gd hr h => ?_)
  · obtain ⟨x, t, y, l, rfl, _⟩ := h; rfl
  · obtain ⟨x, t, y, l, rfl, hx, g, hy, hl, q⟩ := h
    refine ⟨_, (pss_one (ps_ret (pe_ix (ix_listK (K := K) rfl) (pe_ix (ix_tupK (K := K) rfl) (pv 0) pe_int (fun _ _ => rfl)) (pe_g G_law_behind gd (hr.mono (by decide)) (by rfl) T.g_law_behind T.F_law_behind.kp T.b_law_behind .nil pass0 (pa_cons (pv 0) (pa_cons (pv 1) pa_nil))) (fun _ _ => rfl)))), ?_⟩
    obtain ⟨a, b, c, ys, rfl, ha, hb, hyl, hrow, hc, _⟩ := hx.tab
    have sa : SqT K H a [.int (t.many : Int), .ref b, .ref c] := .inl (.inl ha)
    exact ⟨_, rfl, a, _, 2, _, rfl, rfl, sa, rfl, _, rfl, _, rfl, _, t, y, l, rfl, hx, g, hy, hl, c, _, _, _, rfl, rfl, .inl (.inl hc), atI_nat (takes_at g hl), q⟩
def spEnds : Sp := fun vs H Q _ => ∃ (x : V) (t : Tb) (i : Nat) (v : V), vs = [x, .int i] ∧ Dt H x t.d ∧ (t.ends.map V.bl)[i]? = some v ∧ Q v H
theorem ok_table_ends (T : Tx K mg) : FnG P w K mg base CX0 1 T.a_table_ends T.d_table_ends ["table", "stand"] spEnds := by
  refine bodyG0 T.F_table_ends sc_table_ends (fun vs H Q E h => ?_) (fun cdv A outer s H vs Q E gd hr h => ?_)
  · obtain ⟨x, t, i, v, rfl, _⟩ := h; rfl
  · obtain ⟨x, t, i, v, rfl, hx, hi, q⟩ := h
    refine ⟨_, (pss_one (ps_ret (pe_ix (ix_listK (K := K) rfl) (pe_ix (ix_tupK (K := K) rfl) (pv 0) pe_int (fun _ _ => rfl)) (pv 1) (fun _ _ => rfl)))), ?_⟩
    obtain ⟨a, b, c, ys, rfl, ha, hb, hyl, hrow, hc, _⟩ := hx.tab
    have sa : SqT K H a [.int (t.many : Int), .ref b, .ref c] := .inl (.inl ha)
    exact ⟨_, rfl, a, _, 2, _, rfl, rfl, sa, rfl, _, rfl, c, _, _, _, rfl, rfl, .inl (.inl hc), atI_nat hi, q⟩
theorem good_form {t : Tb} (g : t.Good) : tabB t.d = true := by
  show tab3 _ _ _ = true
  unfold tab3
  have h1 : cnt (.int (t.many : Int)) 6 = true := by
    show (decide (0 ≤ (t.many : Int)) && decide ((t.many : Int) ≤ 6)) = true
    have := g.many
    rw [decide_eq_true (show 0 ≤ (t.many : Int) by omega), decide_eq_true (show (t.many : Int) ≤ 6 by omega)]; rfl
  rw [h1]
  show (true && (true && tabL (t.many : Int) (t.steps.map fun l => PyData.list (natD l)) (t.ends.map PyData.bool))) = true
  have g1 := g.some
  have g2 := g.same
  unfold tabL
  simp only [List.length_map, Bool.true_and, Bool.and_eq_true, Bool.not_eq_true', decide_eq_false_iff_not, decide_eq_true_eq]
  refine ⟨by omega, by omega, ?_, ?_⟩
  · rw [List.all_eq_true]
    intro x hx
    obtain ⟨b, _, rfl⟩ := List.mem_map.mp hx
    rfl
  · rw [List.all_eq_true]
    intro x hx
    obtain ⟨l, hl, rfl⟩ := List.mem_map.mp hx
    show (decide (((natD l).length : Int) = 1 * 2 ^ (t.many : Int).toNat) && (natD l).all fun x => cnt x ((t.steps.length : Int) - 1)) = true
    rw [List.length_map, g.line l hl, Int.toNat_natCast, Int.one_mul, Int.natCast_pow]
    refine Bool.and_eq_true_iff.mpr ⟨decide_eq_true rfl, ?_⟩
    rw [List.all_eq_true]
    intro y hy
    obtain ⟨n, hn, rfl⟩ := List.mem_map.mp hy
    have := g.stand l hl n hn
    show (decide (0 ≤ (n : Int)) && decide ((n : Int) ≤ (t.steps.length : Int) - 1)) = true
    rw [decide_eq_true (show 0 ≤ (n : Int) by omega), decide_eq_true (show (n : Int) ≤ (t.steps.length : Int) - 1 by omega)]; rfl
def spBehind : Sp := fun vs H Q _ => ∃ (x : V) (t : Tb) (y : Addr) (l : List Nat), vs = [x, .ref y] ∧ Dt H x t.d ∧ t.Good ∧ Nice t.d ∧ H y = some (.lst (natV l)) ∧ (∀ c ∈ l, c < 2 ^ t.many) ∧ l.length ≤ 1000000 ∧ ∀ H', Same H H' → Q (.int (t.behind l : Nat)) H'
theorem ok_stand_behind (T : Tx K mg) : FnG P w K mg base CX0 6 T.a_stand_behind T.d_stand_behind ["table", "row"] spBehind := by
  have G_check_table := ok_check_table (P := P) (w := w) (base := base) T
  have G_check_row := ok_check_row (P := P) (w := w) (base := base) T
  have G_stand_after := ok_stand_after (P := P) (w := w) (base := base) T
  refine bodyG0 T.F_stand_behind sc_stand_behind (fun vs H Q E h => ?_) (fun cdv A outer s H vs Q E gd hr h => ?_)
  · obtain ⟨x, t, y, l, rfl, _⟩ := h; rfl
  · obtain ⟨x, t, y, l, rfl, hx, g, nd, hy, hl, hz, q⟩ := h
    refine ⟨_, (pss_cons (ps_expr (pe_g G_check_table gd (hr.mono (by decide)) (by rfl) T.g_check_table T.F_check_table.kp T.b_check_table .nil pass0 (pa_cons (pv 0) pa_nil)))
      (pss_cons (ps_expr (pe_g G_check_row gd (hr.mono (by decide)) (by rfl) T.g_check_row T.F_check_row.kp T.b_check_row .nil pass0 (pa_cons (pe_ix (ix_tupK (K := K) rfl) (pv 0) pe_int (fun _ _ => rfl)) (pa_cons (pv 1) pa_nil))))
      (pss_one (ps_ret (pe_g G_stand_after gd (hr.mono (by decide)) (by rfl) T.g_stand_after T.F_stand_after.kp T.b_stand_after .nil pass0 (pa_cons (pv 0) (pa_cons (pv 1) pa_nil))))))), ?_⟩
    obtain ⟨a, b, c, ys, rfl, ha, hb, hyl, hrow, hc, _⟩ := hx.tab
    refine ⟨_, rfl, _, _, rfl, hx, nd, good_form g, fun H1 e1 => ?_⟩
    have sa : SqT K H1 a [.int (t.many : Int), .ref b, .ref c] := .inl (.inl (e1 _ _ ha))
    refine ⟨_, rfl, a, _, 0, _, rfl, rfl, sa, rfl, _, rfl, y, l, t.many, rfl, e1 _ _ hy, g.many, hl, hz, fun H2 e2 => ?_⟩
    exact ⟨_, rfl, _, rfl, _, t, y, l, rfl, hx.to (e1.trans e2), g, e2 _ _ (e1 _ _ hy), hl, q _ (e1.trans e2)⟩
def spTakes2 : Sp := fun vs H Q _ => ∃ (x : V) (t : Tb) (y : Addr) (l : List Nat), vs = [x, .ref y] ∧ Dt H x t.d ∧ t.Good ∧ Nice t.d ∧ H y = some (.lst (natV l)) ∧ (∀ c ∈ l, c < 2 ^ t.many) ∧ l.length ≤ 1000000 ∧ ∀ H', Same H H' → Q (.bl (Tb.takes t l)) H'
theorem ok_takes (T : Tx K mg) : FnG P w K mg base CX0 7 T.a_takes T.d_takes ["table", "row"] spTakes2 := by
  have G_stand_behind := ok_stand_behind (P := P) (w := w) (base := base) T
  have G_table_ends := ok_table_ends (P := P) (w := w) (base := base) T
  refine bodyG0 T.F_takes sc_takes (fun vs H Q E h => ?_) (fun cdv A outer s H vs Q E gd hr h => ?_)
  · obtain ⟨x, t, y, l, rfl, _⟩ := h; rfl
  · obtain ⟨x, t, y, l, rfl, hx, g, nd, hy, hl, hz, q⟩ := h
    refine ⟨_, (pss_one (ps_ret (pe_g G_table_ends gd (hr.mono (by decide)) (by rfl) T.g_table_ends T.F_table_ends.kp T.b_table_ends .nil pass0 (pa_cons (pv 0) (pa_cons (pe_g G_stand_behind gd (hr.mono (by decide)) (by rfl) T.g_stand_behind T.F_stand_behind.kp T.b_stand_behind .nil pass0 (pa_cons (pv 0) (pa_cons (pv 1) pa_nil))) pa_nil))))), ?_⟩
    exact ⟨_, rfl, _, rfl, _, rfl, x, t, y, l, rfl, hx, g, nd, hy, hl, hz, fun H' e => ⟨x, t, _, _, rfl, hx.to e, takes_at g hl, q H' e⟩⟩
end

section
variable {P : Program} {w : World} {K : PySem.W.Frag} {mg : Str → Option Value} {base : Heap}
theorem bit_of (x p : Nat) : Builtin.bitAnd ((x : Int) / 2 ^ (0 + (p : Int)).toNat) 1 = (bitN x p : Nat) := by
  rw [bitAnd_m1, Int.zero_add, Int.toNat_natCast]
  unfold bitN
  rw [Int.natCast_emod, Int.natCast_ediv, Int.natCast_pow]
  rfl
theorem bit_shl (x p i : Nat) : Builtin.bitAnd ((x : Int) / 2 ^ (0 + (p : Int)).toNat) 1 * 2 ^ (i : Int).toNat = ((bitN x p * 2 ^ i : Nat) : Int) := by
  rw [bit_of, Int.toNat_natCast, Int.natCast_mul, Int.natCast_pow]
  rfl
theorem bit_small (x p : Nat) : (Builtin.bitAnd ((x : Int) / 2 ^ (0 + (p : Int)).toNat) 1).natAbs < 2 ^ 1 := by
  rw [bit_of]
  have := bitN_lt x p
  omega
theorem sum_step {l : List Nat} {i x p : Nat} {l2 : List Int} (h : l[i]? = some x) (hs : l2.sum = (col (l.take i) p : Nat)) (b : Int) (hb : b = ((bitN x p * 2 ^ i : Nat) : Int)) : (l2 ++ [b]).sum = (col (l.take (i + 1)) p : Nat) := by
  rw [List.sum_append, hs, col_take p h, hb, Int.natCast_add]
  show _ + (_ + 0) = _
  omega
def spLetters : Sp := fun vs H Q _ => ∃ (y : Addr) (l : List Nat) (n : Nat), vs = [.int n, .ref y] ∧ H y = some (.lst (natV l)) ∧ n ≤ 64 ∧ l.length ≤ 1000 ∧ ∀ (p : Addr) (H' : Hp), Same H H' → H p = none → H' p = some (.lst (natV (tr n l))) → Q (.ref p) H'
theorem ok_letters_of (T : Tx K mg) : FnG P w K mg base CX0 1 T.a_letters_of T.d_letters_of ["width", "words"] spLetters := by
  refine bodyG0 T.F_letters_of sc_letters_of (fun vs H Q E h => ?_) (fun cdv A outer s H vs Q E gd hr h => ?_)
  · obtain ⟨y, l, n, rfl, _⟩ := h; rfl
  · obtain ⟨y, l, n, rfl, hy, hn, hz, q⟩ := h
    refine ⟨_, (pss_cons (ps_set (i := 2) sc_letters_of.nd rfl (Or.inl rfl) (pe_lst pa_nil))
      (pss_cons (ps_for PassesOwn.never rfl (pi_range1 (by rfl) T.z_range (pa_cons (pv 0) pa_nil)) (pg_name (i := 3) sc_letters_of.nd rfl (Or.inr rfl)) (pss_one (ps_expr (pe_bm PySem.F.plainAttrs_list PySem.F.slot_list_append PySem.F.type_list_append mt_append (pv 2) (pa_cons (pe_callB (cr_sumK (K := K) rfl rfl) (by rfl) T.z_sum (by decide +kernel) (pa_cons (pe_lc (own := [("number", 4), ("word", 5)]) (g := gTup K 2 (gCons (gName 4) (gCons (gName 5) gNil))) (tt := tYes) rfl sc_letters_of.nd (pi_enum (by rfl) T.z_enumerate (pa_cons (pv 1) pa_nil)) (blkOk_by (N := ["width", "words", "row", "place", "number", "word"]) (sc := defScope s_letters_of) (by decide +kernel)) (fun _ _ _ _ _ => (pg_tup (by rfl) (pgs_cons (pg_name (i := 4) sc_letters_of.nd rfl (Or.inl rfl)) (pgs_cons (pg_name (i := 5) sc_letters_of.nd rfl (Or.inl rfl)) pgs_nil)))) (fun _ _ _ _ _ => pts_nil) (fun _ _ _ _ _ => (pe_op op_shlW (pe_op op_and (pe_op op_shr (pv 5) (pv 3)) pe_int) (pv 4)))) pa_nil)) pa_nil)))))
      (pss_one (ps_ret (pv 2))))), ?_⟩
    refine ⟨Nat.zero_le _, fun D hD => ?_⟩
    refine ⟨_, rfl, n, rfl, by omega, by omega, ?_⟩
    refine for_range (n := n) (fun p σ H' => ∃ z3 z4 z5 : Option V, σ = [some (.int n), some (.ref y), some (.ref D), z3, z4, z5] ∧ Same H H' ∧ H' D = some (.lst (natV (tr p l)))) ⟨none, none, none, rfl, same_new' hD, upd_same⟩ ?_ ?_
    · rintro p σ H1 hp ⟨z3, z4, z5, rfl, s1, e1⟩
      have sq1 : SqL K H1 y (natV l) := .inl (.inl (s1 _ _ hy))
      refine ⟨_, rfl, .inl ⟨rfl, _, .inl (.inl e1)⟩, _, rfl, y, _, rfl, sq1, fun D2 hD2 => ?_⟩
      refine lc_it walk_enum (fun i H2 => Same H1 H2 ∧ ∃ l2 : List Int, H2 D2 = some (.lst (l2.map V.int)) ∧ l2.length = i ∧ l2.sum = (col (l.take i) p : Nat)) ⟨same_new' hD2, [], upd_same, rfl, rfl⟩ (fun i H2 _ e => e.1.seq sq1) ?_ ?_
      · rintro i x H2 H3 hi ⟨s2, l2, e2, len2, sum2⟩ ⟨T', x1, x2, rfl, hT, rfl, f1, f2⟩
        cases f1
        have f2 : (natV l)[i]? = some x2 := f2
        obtain ⟨b, hb, rfl⟩ := nat_get f2
        have il : i < l.length := (List.getElem?_eq_some_iff.mp hb).1
        refine ⟨T', [.int i, .int b], rfl, .inl (.inl upd_same), rfl, _, _, rfl, _, _, rfl, rfl, ?_⟩
        have nD : D2 ≠ T' := ne_of_none e2 hT
        refine ⟨rfl, yes_if ?_⟩
        refine ⟨_, rfl, _, rfl, _, _, rfl, rfl, by omega, _, _, rfl, rfl, _, rfl, _, _, rfl, rfl, (by exact shl_ok (bit_small b p) (by omega)), l2.map V.int, by rw [upd_ne nD]; exact e2, by rw [List.length_map]; exact small1000 (by omega), ?_⟩
        refine ⟨fun c o ec => ?_, l2 ++ [_], ?_, by rw [List.length_append]; show l2.length + 1 = i + 1; omega, sum_step hb sum2 _ (bit_shl b p i)⟩
        · rw [upd_ne (ne_of_none ec hD2)]
          exact (same_new' hT) c o (s2 c o ec)
        · rw [upd_same, List.map_append]
          rfl
      · rintro H2 ⟨s2, l2, e2, len2, sum2⟩
        rw [show (natV l).length = l.length from List.length_map .., List.take_length] at sum2
        refine ⟨D2, l2, rfl, .inl (.inl e2), ?_⟩
        rw [sum2]
        have e3 := s2 _ _ e1
        refine ⟨D, _, _, rfl, rfl, e3, by rw [List.length_map, tr_len]; exact small1000 (by omega), ?_⟩
        refine ⟨_, _, _, rfl, fun c o ec => ?_, ?_⟩
        · rw [upd_ne (ne_of_none ec hD)]
          exact (s1.trans s2) c o ec
        · rw [upd_same]
          unfold tr natV
          rw [List.range_succ, List.map_append, List.map_append]
          rfl
    · rintro σ H1 ⟨z3, z4, z5, rfl, s1, e1⟩
      exact ⟨_, rfl, q D H1 s1 hD e1⟩
def spWords : Sp := fun vs H Q _ => ∃ (y : Addr) (l : List Nat) (n : Nat), vs = [.int n, .ref y] ∧ H y = some (.lst (natV l)) ∧ n ≤ 6 ∧ (∀ x ∈ l, x < 2 ^ n) ∧ l.length ≤ 1000 ∧ ∀ (p : Addr) (H' : Hp), Same H H' → H p = none → H' p = some (.lst (natV (tr n l))) → Q (.ref p) H'
theorem ok_words_of (T : Tx K mg) : FnG P w K mg base CX0 5 T.a_words_of T.d_words_of ["many", "row"] spWords := by
  have G_check_many := ok_check_many (P := P) (w := w) (base := base) T
  have G_check_row := ok_check_row (P := P) (w := w) (base := base) T
  refine bodyG0 T.F_words_of sc_words_of (fun vs H Q E h => ?_) (fun cdv A outer s H vs Q E gd hr h => ?_)
  · obtain ⟨y, l, n, rfl, _⟩ := h; rfl
  · obtain ⟨y, l, n, rfl, hy, hn, hl, hz, q⟩ := h
    refine ⟨_, (pss_cons (ps_expr (pe_g G_check_many gd (hr.mono (by decide)) (by rfl) T.g_check_many T.F_check_many.kp T.b_check_many .nil pass0 (pa_cons (pv 0) pa_nil)))
      (pss_cons (ps_expr (pe_g G_check_row gd (hr.mono (by decide)) (by rfl) T.g_check_row T.F_check_row.kp T.b_check_row .nil pass0 (pa_cons (pv 0) (pa_cons (pv 1) pa_nil))))
      (pss_cons (ps_set (i := 2) sc_words_of.nd rfl (Or.inl rfl) (pe_lst pa_nil))
      (pss_cons (ps_for PassesOwn.never rfl (pi_range1 (by rfl) T.z_range (pa_cons (pv 0) pa_nil)) (pg_name (i := 3) sc_words_of.nd rfl (Or.inr rfl)) (pss_one (ps_expr (pe_bm PySem.F.plainAttrs_list PySem.F.slot_list_append PySem.F.type_list_append mt_append (pv 2) (pa_cons (pe_callB (cr_sumK (K := K) rfl rfl) (by rfl) T.z_sum (by decide +kernel) (pa_cons (pe_lc (own := [("place", 4), ("letter", 5)]) (g := gTup K 2 (gCons (gName 4) (gCons (gName 5) gNil))) (tt := tYes) rfl sc_words_of.nd (pi_enum (by rfl) T.z_enumerate (pa_cons (pv 1) pa_nil)) (blkOk_by (N := ["many", "row", "words", "number", "place", "letter"]) (sc := defScope s_words_of) (by decide +kernel)) (fun _ _ _ _ _ => (pg_tup (by rfl) (pgs_cons (pg_name (i := 4) sc_words_of.nd rfl (Or.inl rfl)) (pgs_cons (pg_name (i := 5) sc_words_of.nd rfl (Or.inl rfl)) pgs_nil)))) (fun _ _ _ _ _ => pts_nil) (fun _ _ _ _ _ => (pe_op op_shlW (pe_op op_and (pe_op op_shr (pv 5) (pv 3)) pe_int) (pv 4)))) pa_nil)) pa_nil)))))
      (pss_one (ps_ret (pv 2))))))), ?_⟩
    refine ⟨_, rfl, n, rfl, hn, _, rfl, _, rfl, y, l, n, rfl, hy, hn, hl, by omega, fun H0 e0 => ?_⟩
    have q : ∀ (p : Addr) (H' : Hp), Same H0 H' → H0 p = none → H' p = some (.lst (natV (tr n l))) → Q (.ref p) H' := fun p H' s1 hp e => q p H' (e0.trans s1) (e0.free hp) e
    have hy := e0 _ _ hy
    clear e0
    revert q hy
    generalize H0 = H
    intro q hy
    refine ⟨Nat.zero_le _, fun D hD => ?_⟩
    refine ⟨_, rfl, n, rfl, by omega, by omega, ?_⟩
    refine for_range (n := n) (fun p σ H' => ∃ z3 z4 z5 : Option V, σ = [some (.int n), some (.ref y), some (.ref D), z3, z4, z5] ∧ Same H H' ∧ H' D = some (.lst (natV (tr p l)))) ⟨none, none, none, rfl, same_new' hD, upd_same⟩ ?_ ?_
    · rintro p σ H1 hp ⟨z3, z4, z5, rfl, s1, e1⟩
      have sq1 : SqL K H1 y (natV l) := .inl (.inl (s1 _ _ hy))
      refine ⟨_, rfl, .inl ⟨rfl, _, .inl (.inl e1)⟩, _, rfl, y, _, rfl, sq1, fun D2 hD2 => ?_⟩
      refine lc_it walk_enum (fun i H2 => Same H1 H2 ∧ ∃ l2 : List Int, H2 D2 = some (.lst (l2.map V.int)) ∧ l2.length = i ∧ l2.sum = (col (l.take i) p : Nat)) ⟨same_new' hD2, [], upd_same, rfl, rfl⟩ (fun i H2 _ e => e.1.seq sq1) ?_ ?_
      · rintro i x H2 H3 hi ⟨s2, l2, e2, len2, sum2⟩ ⟨T', x1, x2, rfl, hT, rfl, f1, f2⟩
        cases f1
        have f2 : (natV l)[i]? = some x2 := f2
        obtain ⟨b, hb, rfl⟩ := nat_get f2
        have il : i < l.length := (List.getElem?_eq_some_iff.mp hb).1
        refine ⟨T', [.int i, .int b], rfl, .inl (.inl upd_same), rfl, _, _, rfl, _, _, rfl, rfl, ?_⟩
        have nD : D2 ≠ T' := ne_of_none e2 hT
        refine ⟨rfl, yes_if ?_⟩
        refine ⟨_, rfl, _, rfl, _, _, rfl, rfl, by omega, _, _, rfl, rfl, _, rfl, _, _, rfl, rfl, (by exact shl_ok (bit_small b p) (by omega)), l2.map V.int, by rw [upd_ne nD]; exact e2, by rw [List.length_map]; exact small1000 (by omega), ?_⟩
        refine ⟨fun c o ec => ?_, l2 ++ [_], ?_, by rw [List.length_append]; show l2.length + 1 = i + 1; omega, sum_step hb sum2 _ (bit_shl b p i)⟩
        · rw [upd_ne (ne_of_none ec hD2)]
          exact (same_new' hT) c o (s2 c o ec)
        · rw [upd_same, List.map_append]
          rfl
      · rintro H2 ⟨s2, l2, e2, len2, sum2⟩
        rw [show (natV l).length = l.length from List.length_map .., List.take_length] at sum2
        refine ⟨D2, l2, rfl, .inl (.inl e2), ?_⟩
        rw [sum2]
        have e3 := s2 _ _ e1
        refine ⟨D, _, _, rfl, rfl, e3, by rw [List.length_map, tr_len]; exact small1000 (by omega), ?_⟩
        refine ⟨_, _, _, rfl, fun c o ec => ?_, ?_⟩
        · rw [upd_ne (ne_of_none ec hD)]
          exact (s1.trans s2) c o ec
        · rw [upd_same]
          unfold tr natV
          rw [List.range_succ, List.map_append, List.map_append]
          rfl
    · rintro σ H1 ⟨z3, z4, z5, rfl, s1, e1⟩
      exact ⟨_, rfl, q D H1 s1 hD e1⟩
def spRowOf : Sp := fun vs H Q _ => ∃ (y : Addr) (l : List Nat) (n : Nat), vs = [.int n, .ref y] ∧ H y = some (.lst (natV l)) ∧ n ≤ 64 ∧ (∀ x ∈ l, x < 2 ^ n) ∧ l.length ≤ 6 ∧ ∀ (p : Addr) (H' : Hp), Same H H' → H p = none → H' p = some (.lst (natV (tr n l))) → Q (.ref p) H'
theorem ok_row_of (T : Tx K mg) : FnG P w K mg base CX0 5 T.a_row_of T.d_row_of ["width", "words"] spRowOf := by
  have G_check_width := ok_check_width (P := P) (w := w) (base := base) T
  have G_is_word_of := ok_is_word_of (P := P) (w := w) (base := base) T
  have G_letters_of := ok_letters_of (P := P) (w := w) (base := base) T
  refine bodyG0 T.F_row_of sc_row_of (fun vs H Q E h => ?_) (fun cdv A outer s H vs Q E gd hr h => ?_)
  · obtain ⟨y, l, n, rfl, _⟩ := h; rfl
  · obtain ⟨y, l, n, rfl, hy, hn, hl, hz, q⟩ := h
    refine ⟨_, (pss_cons (ps_expr (pe_g G_check_width gd (hr.mono (by decide)) (by rfl) T.g_check_width T.F_check_width.kp T.b_check_width .nil pass0 (pa_cons (pv 0) pa_nil)))
      (pss_cons (ps_if (PW.pt (pw_or (pt_not (pt_val (pe_callB call_isD (by rfl) T.z_isinstance (by decide +kernel) (pa_cons (pv 1) (pa_cons (pe_bltn (v := .ty "list") (by rfl) T.z_list (by decide +kernel) rfl) pa_nil))))) (pw_or1 (pt_cmpR op_gt (pe_callB (call_lenK (K := K) rfl) (by rfl) T.z_len (by decide +kernel) (pa_cons (pv 1) pa_nil)) (C8.pe_gc (by rfl) T.c_MOST_NAMES) (nomark _))))) (pss_one ps_never) pss_nil)
      (pss_cons (ps_if (pt_not (pt_val (pe_callB (cr_allK (K := K) rfl rfl) (by rfl) T.z_all (by decide +kernel) (pa_cons (pe_lc (own := [("word", 2)]) (g := gName 2) (tt := tYes) rfl sc_row_of.nd (pi_list (pv 1)) (blkOk_by (N := ["width", "words", "word"]) (sc := defScope s_row_of) (by decide +kernel)) (fun _ _ _ _ _ => (pg_name (i := 2) sc_row_of.nd rfl (Or.inl rfl))) (fun _ _ _ _ _ => pts_nil) (fun _ _ _ _ _ => (pe_g G_is_word_of gd (hr.mono (by decide)) (by rfl) T.g_is_word_of T.F_is_word_of.kp T.b_is_word_of .nil pass0 (pa_cons (pv 0) (pa_cons (pv 2) pa_nil))))) pa_nil)))) (pss_one ps_never) pss_nil)
      (pss_one (ps_ret (pe_g G_letters_of gd (hr.mono (by decide)) (by rfl) T.g_letters_of T.F_letters_of.kp T.b_letters_of .nil pass0 (pa_cons (pv 0) (pa_cons (pv 1) pa_nil)))))))), ?_⟩
    have sq : SqL K H y (natV l) := .inl (.inl hy)
    refine ⟨_, rfl, n, rfl, hn, _, rfl, _, _, _, _, rfl, Dt.nats hy, kit_list _, _, rfl, iteF ?_⟩
    refine ⟨_, rfl, y, _, rfl, .inl sq, _, _, rfl, rfl, _, rfl, ?_⟩
    rw [decide_eq_false (show ¬ (6 : Int) < ((natV l).length : Nat) by rw [List.length_map]; omega)]
    refine iteF ⟨_, rfl, y, rfl, ⟨_, sq⟩, fun D hD => ?_⟩
    refine lc_list (K := K) (a := y) (xs := natV l) (fun i H' => Same H H' ∧ H' D = some (.lst ((List.range i).map fun _ => V.bl true))) ⟨same_new' hD, upd_same⟩ (fun i H' _ e => e.1.seq sq) ?_ ?_
    · rintro i x H' hi ⟨s1, e1⟩
      obtain ⟨b, hb, rfl⟩ := nat_get hi
      have il : i < l.length := (List.getElem?_eq_some_iff.mp hb).1
      refine ⟨rfl, yes_if ?_⟩
      refine ⟨_, rfl, _, rfl, n, b, rfl, hn, hl b (List.mem_of_getElem? hb), ?_⟩
      exact lcS (f := fun _ => V.bl true) hD s1 e1 (by omega)
    · rintro H' ⟨s1, e1⟩
      refine ⟨D, (List.range (natV l).length).map fun _ => true, rfl, .inl (.inl ?_), ?_⟩
      · rw [e1, List.map_map]
        rfl
      · rw [all_true]
        refine ⟨true, rfl, iteF ⟨_, rfl, _, rfl, y, l, n, rfl, s1 _ _ hy, hn, by omega, fun p H2 s2 hp e => q p H2 (s1.trans s2) (s1.free hp) e⟩⟩
end

end K13

set_option Elab.async false
set_option linter.all false
set_option maxRecDepth 100000
set_option maxHeartbeats 4000000
namespace K13
open PySem PySem.Spec PyProof.Rows L2 Hw

section
variable {P : Program} {w : World} {K : PySem.W.Frag} {mg : Str → Option Value} {base : Heap}
theorem ok_law_is_table (T : Tx K mg) : FnG P w K mg base CX0 2 T.a_law_is_table T.d_law_is_table ["_law_value_there"] spForm := by
  have G_law_two := ok_law_two (P := P) (w := w) (base := base) T
  refine bodyG0 T.F_law_is_table sc_law_is_table (fun vs H Q E h => ?_) (fun cdv A outer s H vs Q E gd hr h => ?_)
  · obtain ⟨x, d, rfl, _⟩ := h; rfl
  · obtain ⟨x, d, rfl, hd, nd, q⟩ := h
    refine ⟨_, (pss_cons (ps_if (PW.pt (pw_or (pt_not (pt_val (pe_callB call_isD (by rfl) T.z_isinstance (by decide +kernel) (pa_cons (pv 0) (pa_cons (pe_bltn (v := .ty "tuple") (by rfl) T.z_tuple (by decide +kernel) rfl) pa_nil))))) (pw_or (pt_cmpR op_ne (pe_callB (call_lenK (K := K) rfl) (by rfl) T.z_len (by decide +kernel) (pa_cons (pv 0) pa_nil)) pe_int (nomark _)) (pw_or1 (pt_cmpR (op_neT hr.units) (pe_lc (own := [("_law_item", 6)]) (g := gName 6) rfl sc_law_is_table.nd (pi_tup (pe_slice (sl_tupK (K := K) rfl) (pv 0) (po_some pe_int) po_none)) (blkOk_by (N := ["_law_value_there", "_law_many", "_law_steps_there", "_law_ends_there", "_law_line", "_law_end", "_law_item"]) (sc := defScope s_law_is_table) (by decide +kernel)) (fun _ _ _ _ _ => (pg_name (i := 6) sc_law_is_table.nd rfl (Or.inl rfl))) (fun _ _ _ _ _ => (pts_one (pt_not (pt_val (pe_callB call_isD (by rfl) T.z_isinstance (by decide +kernel) (pa_cons (pv 6) (pa_cons (pe_bltn (v := .ty "list") (by rfl) T.z_list (by decide +kernel) rfl) pa_nil))))))) (fun _ _ _ _ _ => (pv 6))) (pe_lst pa_nil) (nomark _)))))) (pss_one (ps_ret pe_bl)) pss_nil)
      (pss_cons (ps_asg (pv 0) (pg_tup (by rfl) (pgs_cons (pg_name (i := 1) sc_law_is_table.nd rfl (Or.inl rfl)) (pgs_cons (pg_name (i := 2) sc_law_is_table.nd rfl (Or.inr rfl)) (pgs_cons (pg_name (i := 3) sc_law_is_table.nd rfl (Or.inl rfl)) pgs_nil)))))
      (pss_cons (ps_if (PW.pt (pw_or (pt_val (pe_callB call_isD (by rfl) T.z_isinstance (by decide +kernel) (pa_cons (pv 1) (pa_cons (pe_bltn (v := .ty "bool") (by rfl) T.z_bool (by decide +kernel) rfl) pa_nil)))) (pw_or (pt_not (pt_val (pe_callB call_isD (by rfl) T.z_isinstance (by decide +kernel) (pa_cons (pv 1) (pa_cons (pe_bltn (v := .ty "int") (by rfl) T.z_int (by decide +kernel) rfl) pa_nil))))) (pw_or (pt_not (pt_chain op_le op_le pe_int (pv 1) pe_int)) (pw_or (pt_cmpR (op_eqT hr.units) (pv 2) (pe_lst pa_nil) (nomark _)) (pw_or1 (pt_cmpR op_ne (pe_callB (call_lenK (K := K) rfl) (by rfl) T.z_len (by decide +kernel) (pa_cons (pv 2) pa_nil)) (pe_callB (call_lenK (K := K) rfl) (by rfl) T.z_len (by decide +kernel) (pa_cons (pv 3) pa_nil)) (nomark _)))))))) (pss_one (ps_ret pe_bl)) pss_nil)
      (pss_cons (ps_if (pt_cmpR (op_neT hr.units) (pe_lc (own := [("_law_end", 5)]) (g := gName 5) rfl sc_law_is_table.nd (pi_list (pv 3)) (blkOk_by (N := ["_law_value_there", "_law_many", "_law_steps_there", "_law_ends_there", "_law_line", "_law_end", "_law_item"]) (sc := defScope s_law_is_table) (by decide +kernel)) (fun _ _ _ _ _ => (pg_name (i := 5) sc_law_is_table.nd rfl (Or.inl rfl))) (fun _ _ _ _ _ => (pts_one (pt_not (pt_val (pe_callB call_isD (by rfl) T.z_isinstance (by decide +kernel) (pa_cons (pv 5) (pa_cons (pe_bltn (v := .ty "bool") (by rfl) T.z_bool (by decide +kernel) rfl) pa_nil))))))) (fun _ _ _ _ _ => (pv 5))) (pe_lst pa_nil) (nomark _)) (pss_one (ps_ret pe_bl)) pss_nil)
      (pss_cons (ps_for PassesOwn.never rfl (pi_list (pv 2)) (pg_name (i := 4) sc_law_is_table.nd rfl (Or.inl rfl)) (pss_cons (ps_if (PW.pt (pw_or (pt_not (pt_val (pe_callB call_isD (by rfl) T.z_isinstance (by decide +kernel) (pa_cons (pv 4) (pa_cons (pe_bltn (v := .ty "list") (by rfl) T.z_list (by decide +kernel) rfl) pa_nil))))) (pw_or1 (pt_cmpR op_ne (pe_callB (call_lenK (K := K) rfl) (by rfl) T.z_len (by decide +kernel) (pa_cons (pv 4) pa_nil)) (pe_g G_law_two gd (hr.mono (by decide)) (by rfl) T.g_law_two T.F_law_two.kp T.b_law_two .nil pass0 (pa_cons (pv 1) pa_nil)) (nomark _))))) (pss_one (ps_ret pe_bl)) pss_nil)
      (pss_one (ps_if (pt_cmpR (op_neT hr.units) (pe_lc (own := [("_law_item", 6)]) (g := gName 6) rfl sc_law_is_table.nd (pi_list (pv 4)) (blkOk_by (N := ["_law_value_there", "_law_many", "_law_steps_there", "_law_ends_there", "_law_line", "_law_end", "_law_item"]) (sc := defScope s_law_is_table) (by decide +kernel)) (fun _ _ _ _ _ => (pg_name (i := 6) sc_law_is_table.nd rfl (Or.inl rfl))) (fun _ _ _ _ _ => (pts_one (PW.pt (pw_or (pt_val (pe_callB call_isD (by rfl) T.z_isinstance (by decide +kernel) (pa_cons (pv 6) (pa_cons (pe_bltn (v := .ty "bool") (by rfl) T.z_bool (by decide +kernel) rfl) pa_nil)))) (pw_or (pt_not (pt_val (pe_callB call_isD (by rfl) T.z_isinstance (by decide +kernel) (pa_cons (pv 6) (pa_cons (pe_bltn (v := .ty "int") (by rfl) T.z_int (by decide +kernel) rfl) pa_nil))))) (pw_or1 (pt_not (pt_chain op_le op_lt pe_int (pv 6) (pe_callB (call_lenK (K := K) rfl) (by rfl) T.z_len (by decide +kernel) (pa_cons (pv 2) pa_nil)))))))))) (fun _ _ _ _ _ => (pv 6))) (pe_lst pa_nil) (nomark _)) (pss_one (ps_ret pe_bl)) pss_nil))))
      (pss_one (ps_ret pe_bl))))))), ?_⟩
    refine ⟨_, rfl, x, d, _, _, rfl, hd, kit_tuple d, _, rfl, ?_⟩
    cases hd with
    | @tup a xs ds ha hs =>
      have nd := nd rfl
      have sq : SqT K H a xs := .inl (.inl ha)
      refine iteF ⟨_, rfl, a, xs, rfl, .inr sq, rfl, _, rfl, ?_⟩
      rw [vi, hs.len]
      by_cases h3 : (ds.length : Int) = 3
      · rw [decide_eq_true h3]
        refine iteF ?_
        obtain ⟨m, st, en, rfl⟩ : ∃ m st en, ds = [m, st, en] := by
          match ds, h3 with
          | [m, st, en], _ => exact ⟨m, st, en, rfl⟩
          | [], h => simp at h
          | [_], h => simp at h
          | [_, _], h => simp at h
          | _ :: _ :: _ :: _ :: r, h => simp only [List.length_cons] at h; omega
        cases hs with
        | @cons vm _ _ _ hm hs =>
        cases hs with
        | @cons vst _ _ _ hst hs =>
        cases hs with
        | @cons ven _ _ _ hen hs =>
        cases hs with
        | nil =>
        have nst : Nice st := nd.tupMem st (by simp)
        have nen : Nice en := nd.tupMem en (by simp)
        have q : ∀ H', Same H H' → Q (.bl (cnt m 6 && (isList st && (isList en && tabL (wh m) (items st) (items en))))) H' := q
        have nmem : ∀ d ∈ [st, en], Nice d := fun d hd => by
          simp only [List.mem_cons, List.not_mem_nil, or_false] at hd
          rcases hd with rfl | rfl
          · exact nst
          · exact nen
        have qf : (isList st && isList en) = false → ∀ H', Same H H' → Q (.bl false) H' := fun z H' s => by
          have q := q H' s
          rw [← Bool.and_assoc (isList st), z, Bool.false_and, Bool.and_false] at q
          exact q
        refine ⟨_, rfl, _, rfl, a, _, rfl, sq, fun z => absurd (show HT.sIx 3 0 (some 1) = 0 from z.1) (by decide), fun _ p hp => ?_⟩
        have s0 : Same H (upd H p (.tup [vst, ven])) := same_new' hp
        have sp : SqT K (upd H p (.tup [vst, ven])) p [vst, ven] := .inl (.inl upd_same)
        refine ⟨p, rfl, ⟨_, sp⟩, fun D hD => ?_⟩
        have hds : DtAll H [vst, ven] [st, en] := .cons hst (.cons hen .nil)
        refine lc_tup (K := K) (a := p) (xs := [vst, ven]) (fun i H' => Flt [st, en] (fun d => !isList d) (upd H p (.tup [vst, ven])) D i H') (Flt.start hD) (fun i H' _ e => .inl (.inl (e.1 _ _ upd_same))) ?_ ?_
        · rintro i y H' hi f
          obtain ⟨d, hdi, hy⟩ := hds.get i y hi
          have hy := hy.to s0
          have il : i < 2 := (List.getElem?_eq_some_iff.mp hi).1
          refine ⟨rfl, _, rfl, y, d, _, _, rfl, hy.to f.1, kit_list d, _, rfl, ?_⟩
          cases hp2 : isList d with
          | false => exact iteT ⟨_, rfl, f.keep hD hdi (by rw [hp2]; rfl) hy (by omega)⟩
          | true => exact iteF (f.skip hdi (by rw [hp2]; rfl))
        · rintro H' f
          obtain ⟨s1, hfl⟩ := f.done rfl
          have s1 := s0.trans s1
          refine ⟨Nat.zero_le _, fun E1 hE1 => ?_⟩
          refine ne_nil hfl hE1 nmem ⟨_, rfl, ?_⟩
          rw [filter_none]
          have s2 : Same H (upd H' E1 (.lst [])) := s1.trans (same_new' hE1)
          generalize (upd H' E1 (.lst [])) = H2 at s2
          rw [show ([st, en].all isList) = (isList st && isList en) by simp]
          cases hst with
          | @lst b ys ss hb hss =>
            cases hen with
            | @lst c zs es hc hes =>
              refine iteF ?_
              have q : ∀ H', Same H H' → Q (.bl (cnt m 6 && tabL (wh m) ss es)) H' := q
              refine ⟨_, rfl, a, _, rfl, (.inl (.inl (s2 _ _ ha))), rfl, vm, _, rfl, .ref b, _, rfl, .ref c, _, rfl, rfl, ?_⟩
              have hm2 := hm.to s2
              refine ⟨_, rfl, vm, m, _, _, rfl, hm2, kit_bool m, _, rfl, ?_⟩
              cases hm with
              | int k =>
                refine iteF ⟨_, rfl, _, _, _, _, rfl, hm2, kit_int _, _, rfl, iteF ?_⟩
                have q : ∀ H', Same H H' → Q (.bl ((decide (0 ≤ k) && decide (k ≤ 6)) && tabL k ss es)) H' := q
                refine ⟨_, rfl, _, _, rfl, rfl, _, rfl, ?_⟩
                by_cases k0 : 0 ≤ k
                rotate_left
                · rw [decide_eq_false k0] at q ⊢
                  exact iteF ⟨_, rfl, iteT (q H2 s2)⟩
                rw [decide_eq_true k0] at q ⊢
                refine iteT ⟨_, _, rfl, rfl, _, rfl, ?_⟩
                by_cases k6 : k ≤ 6
                rotate_left
                · rw [decide_eq_false k6] at q ⊢
                  exact iteT (q H2 s2)
                rw [decide_eq_true k6] at q ⊢
                have q : ∀ H', Same H H' → Q (.bl (tabL k ss es)) H' := q
                obtain ⟨k, rfl⟩ : ∃ n : Nat, k = (n : Int) := ⟨k.toNat, by rw [Int.toNat_of_nonneg k0]⟩
                refine iteF ⟨_, rfl, Nat.zero_le _, fun E2 hE2 => ?_⟩
                have s3 := s2.trans (same_new' (o := .lst []) hE2)
                have dst : Dt (upd H2 E2 (.lst [])) (.ref b) (.list ss) := (Dt.lst hb hss).to s3
                refine ⟨.list ss, .list [], dst, .lst upd_same .nil, shaped_list nst.listMem, shaped_nil, _, rfl, ?_⟩
                rw [eqv_nil]
                clear dst
                generalize (upd H2 E2 (.lst [])) = H3 at s3
                by_cases h0 : (ss.length : Int) = 0
                · have tl : tabL k ss es = false := by unfold tabL; rw [decide_eq_true h0]; rfl
                  rw [tl] at q
                  have e0 : ss = [] := List.length_eq_zero_iff.mp (by omega)
                  rw [e0]
                  exact iteT (q H3 s3)
                have e0 : ss.isEmpty = false := by
                  cases ss with
                  | nil => exact absurd rfl h0
                  | cons _ _ => rfl
                rw [e0]
                have sqb : SqL K H3 b ys := .inl (.inl (s3 _ _ hb))
                have sqc : SqL K H3 c zs := .inl (.inl (s3 _ _ hc))
                refine iteF ⟨_, rfl, b, ys, rfl, .inl sqb, _, rfl, c, zs, rfl, .inl sqc, rfl, _, rfl, ?_⟩
                rw [vi, hss.len, hes.len]
                by_cases hl : (ss.length : Int) = es.length
                rotate_left
                · have tl : tabL k ss es = false := by unfold tabL; rw [decide_eq_false hl, Bool.false_and, Bool.and_false]
                  rw [tl] at q
                  rw [decide_eq_false hl]
                  exact iteT (q H3 s3)
                rw [decide_eq_true hl]
                have ze := len_of_nice nen
                have zs' := len_of_nice nst
                have le := hes.len
                have ls := hss.len
                refine iteF ⟨_, rfl, c, rfl, ⟨_, sqc⟩, fun D3 hD3 => ?_⟩
                refine lc_list (K := K) (a := c) (xs := zs) (fun i H' => Flt es (fun d => !isBool d) H3 D3 i H') (Flt.start hD3) (fun i H' _ e => e.1.seq sqc) ?_ ?_
                · rintro i y H' hi f
                  obtain ⟨d, hdi, hy⟩ := hes.get i y hi
                  have hy := hy.to s3
                  have il : i < zs.length := (List.getElem?_eq_some_iff.mp hi).1
                  refine ⟨rfl, _, rfl, y, d, _, _, rfl, hy.to f.1, kit_bool d, _, rfl, ?_⟩
                  cases hp2 : isBool d with
                  | false => exact iteT ⟨_, rfl, f.keep hD3 hdi (by rw [hp2]; rfl) hy (by omega)⟩
                  | true => exact iteF (f.skip hdi (by rw [hp2]; rfl))
                rintro H4 f
                obtain ⟨s4, hfl⟩ := f.done hes.len
                refine ⟨Nat.zero_le _, fun E4 hE4 => ?_⟩
                refine ne_nil hfl hE4 nen.listMem ⟨_, rfl, ?_⟩
                rw [filter_none]
                have s4 := s3.trans (s4.trans (same_new' (o := .lst []) hE4))
                generalize (upd H4 E4 (.lst [])) = H5 at s4
                cases hb2 : es.all isBool with
                | false =>
                  have tl : tabL k ss es = false := by unfold tabL; rw [hb2, Bool.false_and, Bool.and_false, Bool.and_false]
                  rw [tl] at q
                  exact iteT (q H5 s4)
                | true =>
                  have tl : tabL k ss es = ss.all fun x => stepB x (1 * 2 ^ (k : Int).toNat) ss.length := by
                    unfold tabL
                    rw [hb2, decide_eq_false h0, decide_eq_true hl]
                    rfl
                  rw [tl] at q
                  have sqb : SqL K H5 b ys := .inl (.inl (s4 _ _ hb))
                  refine iteF ⟨_, rfl, b, rfl, ⟨_, sqb⟩, ?_⟩
                  refine for_list (K := K) (a := b) (xs := ys) (fun i σ H' => Same H H' ∧ ((ss.take i).all fun x => stepB x (1 * 2 ^ (k : Int).toNat) ss.length) = true ∧ ∃ z4 z5 z6 : Option V, σ = [some (.ref a), some (.int (k : Int)), some (.ref b), some (.ref c), z4, z5, z6])
                    ⟨s4, rfl, none, none, none, rfl⟩ (fun i σ H' _ e => .inl (.inl (e.1 _ _ hb))) ?_ ?_
                  · rintro i y σ H6 hi ⟨s6, ok6, z4, z5, z6, rfl⟩
                    obtain ⟨d, hdi, hy⟩ := hss.get i y hi
                    have nl := nst.listMem d (List.mem_of_getElem? hdi)
                    have bad : stepB d (1 * 2 ^ (k : Int).toNat) ss.length = false → ∀ H', Same H H' → Q (.bl false) H' := fun z H' s' => by
                      have q := q H' s'
                      have e : (ss.all fun x => stepB x (1 * 2 ^ (k : Int).toNat) ss.length) = false := by
                        rw [List.all_eq_false]
                        exact ⟨d, List.mem_of_getElem? hdi, by rw [z]; exact Bool.false_ne_true⟩
                      rw [e] at q
                      exact q
                    have good : stepB d (1 * 2 ^ (k : Int).toNat) ss.length = true → ((ss.take (i + 1)).all fun x => stepB x (1 * 2 ^ (k : Int).toNat) ss.length) = true := fun z => by
                      rw [List.take_add_one, hdi, List.all_append, ok6, Bool.true_and]
                      show (stepB d _ _ && true) = true
                      rw [z]
                      rfl
                    refine ⟨_, rfl, y, d, _, _, rfl, hy.to s6, kit_list d, _, rfl, ?_⟩
                    cases hy with
                    | @lst r qs ds hr hq =>
                      have sqr : SqL K H6 r qs := .inl (.inl (s6 _ _ hr))
                      refine iteF ⟨_, rfl, r, qs, rfl, .inl sqr, _, rfl, k, rfl, by omega, rfl, _, rfl, ?_⟩
                      rw [vi, hq.len]
                      have e2 : ((2 ^ k : Nat) : Int) = 1 * 2 ^ (k : Int).toNat := by rw [Int.toNat_natCast, Int.one_mul, Int.natCast_pow]; rfl
                      rw [e2]
                      by_cases hsz : (ds.length : Int) = 1 * 2 ^ (k : Int).toNat
                      rotate_left
                      · rw [decide_eq_false hsz]
                        exact iteT (bad (by show (decide _ && _) = false; rw [decide_eq_false hsz]; rfl) H6 s6)
                      rw [decide_eq_true hsz]
                      have zq := len_of_nice nl
                      have lq := hq.len
                      refine iteF ⟨_, rfl, r, rfl, ⟨_, sqr⟩, fun D7 hD7 => ?_⟩
                      refine lc_list (K := K) (a := r) (xs := qs) (fun i H' => Flt ds (fun x => !cnt x ((ss.length : Int) - 1)) H6 D7 i H') (Flt.start hD7) (fun i H' _ e => e.1.seq sqr) ?_ ?_
                      · rintro i2 v H' hi2 f
                        obtain ⟨d2, hdi2, hv⟩ := hq.get i2 v hi2
                        have hv := hv.to s6
                        have hv2 := hv.to f.1
                        have il : i2 < qs.length := (List.getElem?_eq_some_iff.mp hi2).1
                        have kp : (!cnt d2 ((ss.length : Int) - 1)) = true → ∃ acc, H' D7 = some (.lst acc) ∧ acc.length < sizeLine ∧ Flt ds (fun x => !cnt x ((ss.length : Int) - 1)) H6 D7 (i2 + 1) (upd H' D7 (.lst (acc ++ [v]))) := fun z => f.keep hD7 hdi2 z hv (by omega)
                        refine ⟨rfl, _, rfl, v, d2, _, _, rfl, hv2, kit_bool d2, _, rfl, ?_⟩
                        cases hv with
                        | int j =>
                          refine iteF ⟨_, rfl, _, _, _, _, rfl, hv2, kit_int _, _, rfl, iteF ?_⟩
                          refine ⟨_, rfl, _, _, rfl, rfl, _, rfl, ?_⟩
                          have ec : cnt (.int j) ((ss.length : Int) - 1) = (decide (0 ≤ j) && decide (j < (ss.length : Int))) := by
                            show (decide (0 ≤ j) && decide (j ≤ (ss.length : Int) - 1)) = _
                            rw [show decide (j ≤ (ss.length : Int) - 1) = decide (j < (ss.length : Int)) from decide_eq_decide.mpr (by omega)]
                          by_cases j0 : 0 ≤ j
                          · rw [decide_eq_true j0] at ec ⊢
                            refine iteT ⟨_, rfl, b, ys, rfl, .inl (.inl (.inl (f.1 _ _ (s6 _ _ hb)))), _, _, rfl, rfl, _, rfl, ?_⟩
                            rw [ls]
                            by_cases jl : j < (ss.length : Int)
                            · rw [decide_eq_true jl] at ec ⊢
                              exact iteF (f.skip hdi2 (by rw [ec]; rfl))
                            · rw [decide_eq_false jl] at ec ⊢
                              exact iteT ⟨_, rfl, kp (by rw [ec]; rfl)⟩
                          · rw [decide_eq_false j0] at ec ⊢
                            exact iteF ⟨_, rfl, iteT ⟨_, rfl, kp (by rw [ec]; rfl)⟩⟩
                        | bl b => exact iteT ⟨_, rfl, kp rfl⟩
                        | _ => exact iteF ⟨_, rfl, _, _, _, _, rfl, hv2, kit_int _, _, rfl, iteT ⟨_, rfl, kp rfl⟩⟩
                      rintro H8 f
                      obtain ⟨s8, hfl⟩ := f.done hq.len
                      refine ⟨Nat.zero_le _, fun E9 hE9 => ?_⟩
                      refine ne_nil hfl hE9 nl.listMem ⟨_, rfl, ?_⟩
                      rw [filter_none]
                      have s9 := s6.trans (s8.trans (same_new' (o := .lst []) hE9))
                      generalize (upd H8 E9 (.lst [])) = H9 at s9
                      have es2 : stepB (.list ds) (1 * 2 ^ (k : Int).toNat) ss.length = ds.all fun x => cnt x ((ss.length : Int) - 1) := by
                        show (decide _ && _) = _
                        rw [decide_eq_true hsz]
                        rfl
                      cases hall : ds.all fun x => cnt x ((ss.length : Int) - 1) with
                      | false => exact iteT (bad (by rw [es2, hall]) H9 s9)
                      | true => exact iteF ⟨s9, good (by rw [es2, hall]), _, _, _, rfl⟩
                    | _ => exact iteT (bad rfl H6 s6)
                  · rintro σ H6 ⟨s6, ok6, z4, z5, z6, rfl⟩
                    rw [ls, List.take_length] at ok6
                    rw [ok6] at q
                    exact q H6 s6
              | bl b => exact iteT (q H2 s2)
              | _ => exact iteF ⟨_, rfl, _, _, _, _, rfl, hm2, kit_int _, _, rfl, iteT (q H2 s2)⟩
            | _ => exact iteT (qf rfl H2 s2)
          | _ => exact iteT (qf rfl H2 s2)
      · rw [tabB_len h3] at q
        rw [decide_eq_false h3]
        exact iteT (q H (Same.refl H))
    | _ => exact iteT (q H (Same.refl H))
end

end K13

set_option Elab.async false
set_option linter.all false
set_option maxRecDepth 100000
set_option maxHeartbeats 4000000
namespace K13
open PySem PySem.Spec PyProof.Rows L2 Hw

/-- the generator stands at a, its index is at most m -/
def Gn (a : Addr) (t m : Int) (H : Hp) : Prop := ∃ s c : Int, H a = some (genL s t c) ∧ GenOk s t c m
theorem GenOk.up {s t c m m' : Int} (o : GenOk s t c m) (h : m ≤ m') : GenOk s t c m' := ⟨o.s0, o.s1, o.t0, o.t1, o.c0, Int.le_trans o.c1 h⟩
theorem Gn.up {a : Addr} {t m m' : Int} {H : Hp} (g : Gn a t m H) (h : m ≤ m') : Gn a t m' H := by
  obtain ⟨s, c, e, o⟩ := g
  exact ⟨s, c, e, o.up h⟩
theorem Gn.keep {a p : Addr} {t m : Int} {H : Hp} {o : HO} (g : Gn a t m H) (h : p ≠ a) : Gn a t m (upd H p o) := by
  obtain ⟨s, c, e, k⟩ := g
  exact ⟨s, c, by rw [upd_ne h.symm]; exact e, k⟩
theorem Gn.same {a : Addr} {t m : Int} {H H' : Hp} (g : Gn a t m H) (s : Same H H') : Gn a t m H' := by
  obtain ⟨x, c, e, k⟩ := g
  exact ⟨x, c, s _ _ e, k⟩
theorem Gn.ne {a p : Addr} {t m : Int} {H : Hp} (g : Gn a t m H) (h : H p = none) : p ≠ a := fun e => by
  obtain ⟨s, c, q, _⟩ := g
  rw [e, q] at h
  cases h
theorem off_mono {D : Addr} {H H' : Hp} (e : Same H H') : Same (off D H) (off D H') := fun b o h => by
  obtain ⟨n, h⟩ := off_at h
  exact off_of n (e b o h)
theorem off_upd {D : Addr} {H : Hp} {o : HO} : off D (upd H D o) = off D H := by
  funext b
  unfold off
  by_cases h : b = D
  · rw [if_pos h, if_pos h]
  · rw [if_neg h, if_neg h, upd_ne h]
theorem SameX.new {a p : Addr} {H H' : Hp} {o : HO} (e : SameX a H H') (h : H p = none) : SameX a H (upd H' p o) := fun b x n hb => by
  rw [upd_ne (ne_of_none hb h)]
  exact e b x n hb
theorem SameX.free {a p : Addr} {t m : Int} {H H' : Hp} (e : SameX a H H') (g : Gn a t m H') (h : H' p = none) : H p = none := by
  cases q : H p with
  | none => rfl
  | some o =>
    have := e p o (g.ne h) q
    rw [h] at this
    cases this
section
variable {P : Program} {w : World} {K : PySem.W.Frag} {mg : Str → Option Value} {base : Heap}
def spRnd : Sp := fun vs H Q _ => ∃ (a : Addr) (b : Nat) (t m : Int), vs = [.ref a, .int b] ∧ Gn a t m H ∧ m + 100 < 4294967296 ∧ 0 < b ∧ b < 2 ^ 2000 ∧
  ∀ (r : Nat) (H' : Hp), r < b → SameX a H H' → Gn a t (m + 100) H' → Q (.int r) H'
theorem ok_rnd (T : Tx K mg) : FnG P w K mg base CX0 2 T.a_law_random T.d_law_random ["_law_generator_here", "_law_bound"] spRnd := by
  refine (ok_law_random T).weak fun vs H Q E h => ?_
  obtain ⟨a, b, t, m, rfl, ⟨s, c, e, ok⟩, hm, b0, b1, q⟩ := h
  have b2 : (b : Int) < 2 ^ 2000 := by
    have : ((2 ^ 2000 : Nat) : Int) = (2 : Int) ^ 2000 := by rw [Int.natCast_pow]; rfl
    rw [← this]
    exact Int.ofNat_lt.mpr b1
  refine ⟨a, b, s, t, c, m, rfl, e, ok, hm, by omega, b2, fun r s' c' r0 r1 ok' => ?_⟩
  have q := q r.toNat (upd H a (genL s' t c')) (by omega) SameX.upd ⟨s', c', upd_same, ok'⟩
  rw [Int.toNat_of_nonneg r0] at q
  exact q
def spTable : Sp := fun vs H Q _ => ∃ (a : Addr) (t m : Int) (n most : Nat), vs = [.ref a, .int n, .int most] ∧ Gn a t m H ∧ m + 20000 < 4294967296 ∧ n ≤ 3 ∧ 1 ≤ most ∧ most ≤ 5 ∧
  ∀ (x : V) (tb : Tb) (H' : Hp), SameX a H H' → Gn a t (m + 10000) H' → Dt (off a H') x tb.d → tb.Good → tb.many = n → tb.steps.length ≤ most → Q x H'
theorem ok_law_table (T : Tx K mg) : FnG P w K mg base CX0 3 T.a_law_table T.d_law_table ["_law_generator_here", "_law_many", "_law_most"] spTable := by
  have G_law_random := ok_rnd (P := P) (w := w) (base := base) T
  have G_law_two := ok_law_two (P := P) (w := w) (base := base) T
  refine bodyG0 T.F_law_table sc_law_table (fun vs H Q E h => ?_) (fun cdv A outer s H vs Q E gd hr h => ?_)
  · obtain ⟨a, t, m, n, most, rfl, _⟩ := h; rfl
  · obtain ⟨a, t, m, n, most, rfl, g0, hm, hn, m1, m5, q⟩ := h
    refine ⟨_, (pss_cons (ps_set (i := 3) sc_law_table.nd rfl (Or.inr rfl) (pe_op op_add pe_int (pe_g G_law_random gd (hr.mono (by decide)) (by rfl) T.g_law_random T.F_law_random.kp T.b_law_random .nil pass0 (pa_cons (pv 0) (pa_cons (pv 2) pa_nil)))))
      (pss_cons (ps_setLc (i := 4) (own := [("_law_stand", 5)]) (g := gName 5) (tt := tYes) rfl sc_law_table.nd rfl rfl (sw_true rfl rfl rfl (by decide +kernel)) (pi_range1 (by rfl) T.z_range (pa_cons (pv 3) pa_nil)) (blkOk_by (N := ["_law_generator_here", "_law_many", "_law_most", "_law_size", "_law_steps_there", "_law_stand", "_law_letter"]) (sc := defScope s_law_table) (by decide +kernel)) (fun _ _ _ _ _ => (pg_name (i := 5) sc_law_table.nd rfl (Or.inl rfl))) (fun _ _ _ _ _ => pts_nil) (fun _ _ _ _ _ => (pe_lc (own := [("_law_letter", 6)]) (g := gName 6) (tt := tYes) rfl sc_law_table.nd (pi_range1 (by rfl) T.z_range (pa_cons (pe_g G_law_two gd (hr.mono (by decide)) (by rfl) T.g_law_two T.F_law_two.kp T.b_law_two .nil pass0 (pa_cons (pv 1) pa_nil)) pa_nil)) (blkOk_by (by kernel_rfl)) (fun _ _ _ _ _ => (pg_name (i := 6) sc_law_table.nd rfl (Or.inl rfl))) (fun _ _ _ _ _ => pts_nil) (fun _ _ _ _ _ => (pe_g G_law_random gd (hr.mono (by decide)) (by rfl) T.g_law_random T.F_law_random.kp T.b_law_random .nil pass0 (pa_cons (pv 0) (pa_cons (pv 3) pa_nil)))))))
      (pss_one (ps_ret (pe_tup (pa_cons (pv 1) (pa_cons (pv 4) (pa_cons (pe_lc (own := [("_law_stand", 5)]) (g := gName 5) (tt := tYes) rfl sc_law_table.nd (pi_range1 (by rfl) T.z_range (pa_cons (pv 3) pa_nil)) (blkOk_by (N := ["_law_generator_here", "_law_many", "_law_most", "_law_size", "_law_steps_there", "_law_stand", "_law_letter"]) (sc := defScope s_law_table) (by decide +kernel)) (fun _ _ _ _ _ => (pg_name (i := 5) sc_law_table.nd rfl (Or.inl rfl))) (fun _ _ _ _ _ => pts_nil) (fun _ _ _ _ _ => (pe_cmpR op_eq (pe_g G_law_random gd (hr.mono (by decide)) (by rfl) T.g_law_random T.F_law_random.kp T.b_law_random .nil pass0 (pa_cons (pv 0) (pa_cons pe_int pa_nil))) pe_int (nomark _)))) pa_nil)))))))), ?_⟩
    have big : ∀ {b : Nat}, b ≤ 10 → b < 2 ^ 2000 := fun {b} hb => by
      have : (10 : Nat) < 2 ^ 2000 := by decide +kernel
      omega
    have n8 : (2 : Nat) ^ n ≤ 8 := Nat.le_trans (Nat.pow_le_pow_right (by decide) hn) (by decide)
    have c8 : ((2 ^ n : Nat) : Int) ≤ 8 := Int.ofNat_le.mpr n8
    have c0 : (0 : Int) ≤ ((2 ^ n : Nat) : Int) := Int.natCast_nonneg _
    refine ⟨_, rfl, _, rfl, a, most, t, m, rfl, g0, by omega, by omega, big (by omega), fun r H1 hr1 x1 g1 => ?_⟩
    obtain ⟨z, hz, z1, z5⟩ : ∃ z : Nat, (1 : Int) + (r : Int) = (z : Int) ∧ 1 ≤ z ∧ z ≤ most := ⟨1 + r, by omega, by omega, by omega⟩
    refine ⟨_, _, rfl, rfl, ?_⟩
    dsimp only
    rw [hz]
    refine ⟨_, rfl, z, rfl, by omega, by omega, fun D hD => ?_⟩
    refine lc_range (lo := 0) (n := z) (fun i H' => SameX a H1 H' ∧ Gn a t (m + 100 + 1000 * i) H' ∧ ∃ (vs : List V) (ls : List (List Nat)), H' D = some (.lst vs) ∧ DtAll (off D (off a H')) vs (ls.map fun l => .list (natD l)) ∧ vs.length = i ∧ ls.length = i ∧ ∀ l ∈ ls, l.length = 2 ^ n ∧ ∀ x ∈ l, x < z)
      ⟨SameX.of (same_new' hD), (g1.same (same_new' hD)).up (by omega), [], [], upd_same, .nil, rfl, rfl, fun l hl => nomatch hl⟩ ?_ ?_
    · rintro i H2 hi ⟨x2, g2, vs, ls, e2, dt2, lv, ll, hls⟩
      refine ⟨rfl, yes_if ?_⟩
      refine ⟨_, rfl, n, rfl, by omega, _, rfl, ?_⟩
      refine ⟨by omega, by omega, fun D2 hD2 => ?_⟩
      have nD : D2 ≠ a := g2.ne hD2
      have nDD : D ≠ D2 := ne_of_none e2 hD2
      refine lc_range (lo := 0) (n := 2 ^ n) (fun j H' => SameX a H2 H' ∧ Gn a t (m + 100 + 1000 * i + 100 * j) H' ∧ ∃ l : List Nat, H' D2 = some (.lst (natV l)) ∧ l.length = j ∧ ∀ x ∈ l, x < z)
        ⟨SameX.of (same_new' hD2), (g2.same (same_new' hD2)).up (by omega), [], upd_same, rfl, fun x hx => nomatch hx⟩ ?_ ?_
      · rintro j H3 hj ⟨x3, g3, l, e3, le3, hl3⟩
        refine ⟨rfl, yes_if ?_⟩
        refine ⟨_, rfl, _, rfl, a, z, t, _, rfl, g3, by omega, by omega, big (by omega), fun r2 H4 hr2 x4 g4 => ?_⟩
        refine ⟨natV l, x4 _ _ nD e3, by rw [List.length_map]; exact small1000 (by omega), SameX.new (x3.trans x4) hD2, (g4.keep nD).up (by omega), l ++ [r2], ?_, by rw [List.length_append, le3]; rfl, fun x hx => ?_⟩
        · rw [upd_same]
          show _ = some (HO.lst ((l ++ [r2]).map _))
          rw [List.map_append]
          rfl
        · rcases List.mem_append.mp hx with h | h
          · exact hl3 x h
          · rw [List.mem_singleton.mp h]; exact hr2
      · rintro H3 ⟨x3, g3, l, e3, le3, hl3⟩
        have nDa : D ≠ a := g1.ne hD
        refine ⟨vs, x3 _ _ nDa e2, by rw [lv]; exact small1000 (by omega), SameX.new (x2.trans x3) hD, (g3.keep nDa).up (by omega), vs ++ [.ref D2], ls ++ [l], upd_same, ?_, by rw [List.length_append, lv]; rfl, by rw [List.length_append, ll]; rfl, fun l' hl' => ?_⟩
        · rw [show off D (off a (upd H3 D (.lst (vs ++ [.ref D2])))) = off D (off a H3) by
            funext b
            unfold off
            by_cases h : b = D
            · rw [if_pos h, if_pos h]
            · rw [if_neg h, if_neg h, upd_ne h]]
          rw [List.map_append]
          exact (dt2.to (off_mono x3.off)).app (.one (Dt.nats (off_of nDD.symm (off_of nD e3))))
        · rcases List.mem_append.mp hl' with h | h
          · exact hls l' h
          · rw [List.mem_singleton.mp h]
            exact ⟨le3, hl3⟩
    · rintro H2 ⟨x2, g2, vs, ls, e2, dt2, lv, ll, hls⟩
      have nDa : D ≠ a := g1.ne hD
      refine ⟨_, rfl, _, rfl, _, rfl, z, rfl, by omega, by omega, fun D2 hD2 => ?_⟩
      have nD : D2 ≠ a := g2.ne hD2
      refine lc_range (lo := 0) (n := z) (fun j H' => SameX a H2 H' ∧ Gn a t (m + 5100 + 100 * j) H' ∧ ∃ l : List Bool, H' D2 = some (.lst (l.map V.bl)) ∧ l.length = j)
        ⟨SameX.of (same_new' hD2), (g2.same (same_new' hD2)).up (by omega), [], upd_same, rfl⟩ ?_ ?_
      · rintro j H3 hj ⟨x3, g3, l, e3, le3⟩
        refine ⟨rfl, yes_if ?_⟩
        refine ⟨_, rfl, a, 2, t, _, rfl, g3, by omega, by omega, big (by omega), fun r2 H4 hr2 x4 g4 => ?_⟩
        refine ⟨rfl, l.map V.bl, x4 _ _ nD e3, by rw [List.length_map]; exact small1000 (by omega), SameX.new (x3.trans x4) hD2, (g4.keep nD).up (by omega), l ++ [decide (V.int (r2 : Int) = V.int 1)], ?_, by rw [List.length_append, le3]; rfl⟩
        rw [upd_same, List.map_append]
        rfl
      · rintro H3 ⟨x3, g3, l, e3, le3⟩
        refine ⟨by show 3 ≤ sizeLine; rw [sizeLine_eq]; decide, fun p hp => ?_⟩
        have np : p ≠ a := g3.ne hp
        have sn : Same H3 (upd H3 p (.tup [.int (n : Int), .ref D, .ref D2])) := same_new' hp
        have oD : off a (upd H3 p (.tup [.int (n : Int), .ref D, .ref D2])) D = some (.lst vs) := off_of nDa (sn _ _ (x3 _ _ nDa e2))
        have oD2 : off a (upd H3 p (.tup [.int (n : Int), .ref D, .ref D2])) D2 = some (.lst (l.map V.bl)) := off_of nD (sn _ _ e3)
        refine q (.ref p) ⟨n, ls, l⟩ _ ((x1.trans (x2.trans x3)).trans (SameX.of sn)) ((g3.keep np).up (by omega)) ?_ ⟨by show n ≤ 6; omega, by show 0 < ls.length; omega, by show l.length = ls.length; omega, fun l' hl' => (hls l' hl').1, fun l' hl' x hx => ?_⟩ rfl (by show ls.length ≤ most; omega)
        · refine .tup (off_of np upd_same) (.cons (.int _) (.cons (.lst oD ?_) (.cons (.lst oD2 (DtAll.bls l)) .nil)))
          exact (dt2.to off_same).to ((x3.trans (SameX.of sn)).off)
        · show x < ls.length
          rw [ll]
          exact (hls l' hl').2 x hx
end

end K13

set_option Elab.async false
set_option linter.all false
set_option maxRecDepth 100000
set_option maxHeartbeats 4000000
namespace K13
open PySem PySem.Spec PyProof.Rows L2 Hw

/-! ### the values bent from a table -/
section
variable {l : List Addr} {P : PyData → Prop} {k b n k' b' n' : Nat} {S : Hp → Prop} {σ : L2.St} {K : PySem.W.Frag}
def PEl (d : PyData) : Prop := Bnd 4 6100 d ∨ d = .dict []
theorem Ev.pe {te : TE} (h : Ev S (Hw.D l (Bnd 4 6100)) te σ) : Ev S (Hw.D l PEl) te σ := h.mono fun _ _ ⟨d, a, p⟩ => ⟨d, a, .inl p⟩
theorem Ev.dnew (st : Stb l S) : Ev S (Hw.D l PEl) tDNewK σ := fun H Q s q p hp => q _ _ (same_new' hp) ⟨.dict [], .dic [] (offs_of (st.new H p s hp) upd_same), .inr rfl⟩
theorem Ev.neg (i : Nat) (h : i < 10 ^ 38 := by decide) : Ev S (Hw.D l (Bnd k b)) (tUn (rU fun i => .int (-i)) (tC (.int (i : Int)))) σ := fun H Q _ q => ⟨_, rfl, q _ H (Same.refl H) ⟨_, .int _, .int (by omega)⟩⟩
theorem Ev.addI {ta tb : TE} (h : Ev S Hw.I ta σ) (h' : Ev S Hw.I tb σ) (st : ∀ H H', S H → Same H H' → S H') : Ev S Hw.I (tOp (rI0 fun i j => .int (i + j)) ta tb) σ := fun H Q s q => h H _ s fun x H1 e1 ⟨i, ei⟩ => h' H1 _ (st _ _ s e1) fun y H2 e2 ⟨j, ej⟩ => ⟨i, j, ei, ej, q _ H2 (e1.trans e2) ⟨_, rfl⟩⟩
/-- the table's value stands in the heap -/
structure Kn (l : List Addr) (tb : Tb) (kx : V) (S : Hp → Prop) : Prop where
  st : Stb l S
  dt : ∀ H, S H → Dt (offs l H) kx tb.d
  good : tb.Good
  few : tb.steps.length ≤ 5
variable {tb : Tb} {kx : V}
theorem pow64 (h : tb.Good) : 2 ^ tb.many ≤ 64 := Nat.le_trans (Nat.pow_le_pow_right (by decide) h.many) (by decide)
theorem line_bnd (h : tb.Good) (hf : tb.steps.length ≤ 5) {r : List Nat} (hr : r ∈ tb.steps) : Bnd 1 64 (.list (natD r)) := by
  have h1 := h.line r hr
  have h2 := pow64 h
  exact Bnd.nats (n := 64) (fun x hx => by have := h.stand r hr x hx; omega) (by omega) (Nat.le_refl _)
theorem Kn.k0 (kn : Kn l tb kx S) (hσ : σ[1]? = some (some kx)) : Ev S (Hw.D l (Bnd k b)) (tOp (rIxT K) (tVar 1) (tC (.int 0))) σ := fun H Q s q => by
  obtain ⟨a, b, c, ys, rfl, ha, _⟩ := (kn.dt H s).tab
  have := kn.good.many
  exact ⟨_, hσ, a, _, 0, _, rfl, rfl, .inl (.inl (offs_at ha).2), rfl, q _ H (Same.refl H) ⟨_, .int _, .int (by omega)⟩⟩
theorem Kn.plus (kn : Kn l tb kx S) (hσ : σ[1]? = some (some kx)) : Ev S (Hw.D l (Bnd k b)) (tOp (rI0 fun i j => .int (i + j)) (tOp (rIxT K) (tVar 1) (tC (.int 0))) (tC (.int 1))) σ := fun H Q s q => by
  obtain ⟨a, b, c, ys, rfl, ha, _⟩ := (kn.dt H s).tab
  have := kn.good.many
  exact ⟨_, hσ, a, _, 0, _, rfl, rfl, .inl (.inl (offs_at ha).2), rfl, _, _, rfl, rfl, q _ H (Same.refl H) ⟨_, .int _, .int (by omega)⟩⟩
theorem Kn.minus (kn : Kn l tb kx S) (hσ : σ[1]? = some (some kx)) : Ev S (Hw.D l (Bnd k b)) (tOp (rI0 fun i j => .int (i - j)) (tOp (rIxT K) (tVar 1) (tC (.int 0))) (tC (.int 1))) σ := fun H Q s q => by
  obtain ⟨a, b, c, ys, rfl, ha, _⟩ := (kn.dt H s).tab
  have := kn.good.many
  exact ⟨_, hσ, a, _, 0, _, rfl, rfl, .inl (.inl (offs_at ha).2), rfl, _, _, rfl, rfl, q _ H (Same.refl H) ⟨_, .int _, .int (by omega)⟩⟩
theorem Kn.k1 (kn : Kn l tb kx S) (hσ : σ[1]? = some (some kx)) : Ev S (Hw.LD l (Bnd 1 64) 5) (tOp (rIxT K) (tVar 1) (tC (.int 1))) σ := fun H Q s q => by
  obtain ⟨a, b, c, ys, rfl, ha, hb, hl, hrow, hc, hall⟩ := (kn.dt H s).tab
  refine ⟨_, hσ, a, _, 1, _, rfl, rfl, .inl (.inl (offs_at ha).2), rfl, q _ H (Same.refl H) ⟨b, ys, _, rfl, hb, hall, fun d hd => ?_, by rw [List.length_map]; exact kn.few⟩⟩
  obtain ⟨r, hr, rfl⟩ := List.mem_map.mp hd
  exact line_bnd kn.good kn.few hr
theorem Kn.k2 (kn : Kn l tb kx S) (hσ : σ[1]? = some (some kx)) : Ev S (Hw.LD l (Bnd 0 0) 5) (tOp (rIxT K) (tVar 1) (tC (.int 2))) σ := fun H Q s q => by
  obtain ⟨a, b, c, ys, rfl, ha, hb, hl, hrow, hc, hall⟩ := (kn.dt H s).tab
  refine ⟨_, hσ, a, _, 2, _, rfl, rfl, .inl (.inl (offs_at ha).2), rfl, q _ H (Same.refl H) ⟨c, _, _, rfl, hc, DtAll.bls _, fun d hd => ?_, by rw [List.length_map, kn.good.same]; exact kn.few⟩⟩
  obtain ⟨r, hr, rfl⟩ := List.mem_map.mp hd
  exact .bl r
theorem Kn.ktup (kn : Kn l tb kx S) (hσ : σ[1]? = some (some kx)) : Ev S (Hw.TD l (Bnd 2 330) 3) (tVar 1) σ := fun H Q s q => by
  have dt := kn.dt H s
  obtain ⟨a, b, c, ys, rfl, ha, hb, hl, hrow, hc, hall⟩ := dt.tab
  refine ⟨_, hσ, q _ H (Same.refl H) ⟨a, _, _, rfl, ha, .cons (.int _) (.cons (.lst hb hall) (.cons (.lst hc (DtAll.bls _)) .nil)), fun d hd => ?_, Nat.le_refl _⟩⟩
  have hm := kn.good.many
  simp only [List.mem_cons, List.not_mem_nil, or_false] at hd
  rcases hd with rfl | rfl | rfl
  · exact .int (by omega)
  · refine Bnd.list (k := 1) (b := 64) (n := 5) (fun d hd => ?_) (by rw [List.length_map]; exact kn.few) (by decide)
    obtain ⟨r, hr, rfl⟩ := List.mem_map.mp hd
    exact line_bnd kn.good kn.few hr
  · refine (Bnd.list (k := 0) (b := 0) (n := 5) (c := 5) (fun d hd => ?_) (by rw [List.length_map, kn.good.same]; exact kn.few) (by decide)).up (by decide) (by decide)
    obtain ⟨r, hr, rfl⟩ := List.mem_map.mp hd
    exact .bl r
theorem ixn {n j : Nat} (h : j < n) : ixN n (j : Int) = some j := by
  unfold ixN
  rw [if_pos (by omega), if_pos (by omega), Int.toNat_natCast]
theorem Ev.arg {φ : Fi} {te : TE} {H : Hp} {Q : List V → Hp → Prop} (h : Ev S φ te σ) (s : S H) (q : ∀ x H', Same H H' → φ x H' → Q [x] H') : tCons te tNil σ H Q := h H _ s q
def At (n : Nat) : Fi := fun x _ => x = .int (n : Int)
theorem Ev.ats {i : Nat} {j : Nat} (h : σ[i]? = some (some (.int (j : Int)))) : Ev S (At j) (tVar i) σ := fun H Q s q => ⟨_, h, q _ H (Same.refl H) rfl⟩
theorem line_ld (kn : Kn l tb kx S) {r : Addr} {li : List Nat} {H : Hp} (hr : li ∈ tb.steps) (e : offs l H r = some (.lst (natV li))) : Hw.LD l (Bnd 0 0) 64 (.ref r) H := by
  have h1 := kn.good.line li hr
  have h2 := pow64 kn.good
  have h3 := kn.few
  refine ⟨r, _, natD li, rfl, e, DtAll.nats li, fun d hd => ?_, by rw [List.length_map]; omega⟩
  obtain ⟨x, hx, rfl⟩ := List.mem_map.mp hd
  have := kn.good.stand li hr x hx
  exact .int (by omega)
theorem Kn.kl (kn : Kn l tb kx S) {te : TE} {j : Nat} (hσ : σ[1]? = some (some kx)) (hj : Ev S (At j) te σ) (jl : j < tb.steps.length) : Ev S (Hw.LD l (Bnd 0 0) 64) (tOp (rIxL K) (tOp (rIxT K) (tVar 1) (tC (.int 1))) te) σ := fun H Q s q => by
  obtain ⟨a, b, c, ys, rfl, ha, hb, hl, hrow, hc, hall⟩ := (kn.dt H s).tab
  refine ⟨_, hσ, a, _, 1, _, rfl, rfl, .inl (.inl (offs_at ha).2), rfl, hj H _ s fun x H1 e1 ex => ?_⟩
  obtain rfl : x = .int (j : Int) := ex
  obtain ⟨r, h1, h2⟩ := hrow j _ (List.getElem?_eq_getElem jl)
  exact ⟨b, ys, j, _, rfl, rfl, .inl (.inl (e1 _ _ (offs_at hb).2)), atI_nat h1, q _ H1 e1 (line_ld kn (List.getElem_mem jl) (offs_mono e1 _ _ h2))⟩
theorem Kn.kl0 (kn : Kn l tb kx S) (hσ : σ[1]? = some (some kx)) : Ev S (Hw.LD l (Bnd 0 0) 64) (tOp (rIxL K) (tOp (rIxT K) (tVar 1) (tC (.int 1))) (tC (.int 0))) σ := kn.kl (j := 0) hσ (fun H Q s q => q (.int 0) H (Same.refl H) rfl) kn.good.some
theorem hide {D : Addr} {H H' : Hp} (hD : H D = none) (e : Same H H') : Same (offs l H) (offs (D :: l) H') := fun b o h => by
  obtain ⟨n, h⟩ := offs_at h
  refine offs_of (fun z => ?_) (e b o h)
  rcases List.mem_cons.mp z with z | z
  · exact ne_of_none h hD z
  · exact n z
theorem show' {D : Addr} {H : Hp} : Same (offs (D :: l) H) (offs l H) := fun b o h => by
  obtain ⟨n, h⟩ := offs_at h
  exact offs_of (fun z => n (List.mem_cons_of_mem _ z)) h
/-- the work may go on beside a thing D that is still changed -/
def Beside (S : Hp → Prop) (l : List Addr) (D : Addr) (tb : Tb) (kx : V) : Hp → Prop := fun H => H D ≠ none ∧ Dt (offs (D :: l) H) kx tb.d ∧ ∀ p, H p = none → p ∉ l
theorem Kn.beside (kn : Kn l tb kx S) (D : Addr) : Kn (D :: l) tb kx (Beside S l D tb kx) where
  st := ⟨fun H H' ⟨h1, h2, h3⟩ e => ⟨fun z => h1 (e.free z), h2.to (offs_mono e), fun p hp => h3 p (e.free hp)⟩, fun H p ⟨h1, _, h3⟩ hp z => by
    rcases List.mem_cons.mp z with z | z
    · exact h1 (z ▸ hp)
    · exact h3 p hp z⟩
  dt := fun H h => h.2.1
  good := kn.good
  few := kn.few
theorem Kn.start (kn : Kn l tb kx S) {D : Addr} {H H' : Hp} (s : S H) (hD : H D = none) (e : Same H H') (h : H' D ≠ none) : Beside S l D tb kx H' := ⟨h, (kn.dt H s).to (hide hD e), fun p hp => kn.st.new H p s (e.free hp)⟩
theorem Kn.lc (kn : Kn l tb kx S) {te : TE} {vs : List Nat} {i : Nat} (hσ : σ[1]? = some (some kx))
    (hel : ∀ (l : List Addr) (S : Hp → Prop) (st : Stb l S) (x : V), (∀ H, S H → Hw.LD l (Bnd 0 0) 64 x H) → Ev S (Hw.D l P) te ((wipe σ vs).set i (some x))) (hw : ∀ x : V, wipe ((wipe σ vs).set i (some x)) vs = wipe σ vs) :
    Ev S (Hw.LD l P 5) (tLc (iList K (tOp (rIxT K) (tVar 1) (tC (.int 1)))) (gName i) tYes te vs) σ := fun H Q s q => by
  obtain ⟨a, b, c, ys, rfl, ha, hb, hl, hrow, hc, hall⟩ := (kn.dt H s).tab
  have sqb : SqL K H b ys := .inl (.inl (offs_at hb).2)
  refine ⟨_, hσ, a, _, 1, _, rfl, rfl, .inl (.inl (offs_at ha).2), rfl, b, rfl, ⟨_, sqb⟩, fun D hD => ?_⟩
  have few := kn.few
  refine lc_list (K := K) (a := b) (xs := ys) (fun j H' => Same H H' ∧ H' D ≠ none ∧ ∃ vs ds, H' D = some (.lst vs) ∧ DtAll (offs (D :: l) H') vs ds ∧ (∀ d ∈ ds, P d) ∧ ds.length = j) ⟨same_new' hD, (by rw [upd_same]; exact fun z => nomatch z), [], [], upd_same, .nil, (fun d hd => nomatch hd), rfl⟩ (fun i H' _ e => e.1.seq sqb) ?_ ?_
  · rintro j x H1 hj ⟨e1, n1, vs, ds, hv, hdt, hP, hlen⟩
    have jl : j < ys.length := (List.getElem?_eq_some_iff.mp hj).1
    have js : j < tb.steps.length := by omega
    obtain ⟨r, r1, r2⟩ := hrow j _ (List.getElem?_eq_getElem js)
    have ex : x = .ref r := Option.some.inj (hj.symm.trans r1)
    subst ex
    have kb := kn.beside D
    refine ⟨hw _, yes_if ?_⟩
    refine hel (D :: l) (fun H' => Beside S l D tb (.ref a) H' ∧ Same H H') ⟨fun _ _ z e => ⟨kb.st.keep _ _ z.1 e, z.2.trans e⟩, fun _ p z => kb.st.new _ p z.1⟩ (.ref r) (fun H' z => line_ld kb (List.getElem_mem js) (hide hD z.2 _ _ r2)) H1 _ ⟨kn.start s hD e1 n1, e1⟩ fun y H2 e2 ⟨d, hd, hp⟩ => ?_
    have hv2 := e2 _ _ hv
    refine ⟨vs, hv2, by rw [hdt.len, sizeLine_eq]; omega, fun c o hc => ?_, (by rw [upd_same]; exact fun z => nomatch z), vs ++ [y], ds ++ [d], upd_same, ?_, fun z hz => ?_, by rw [List.length_append, hlen]; rfl⟩
    · rw [upd_ne (ne_of_none hc hD)]
      exact (e1.trans e2) c o hc
    · rw [offs_upd (List.mem_cons_self ..)]
      exact (hdt.to (offs_mono e2)).app (.one hd)
    · rcases List.mem_append.mp hz with h | h
      · exact hP z h
      · rw [List.mem_singleton.mp h]; exact hp
  · rintro H1 ⟨e1, n1, vs, ds, hv, hdt, hP, hlen⟩
    exact q _ _ e1 ⟨D, vs, ds, rfl, offs_of (kn.st.new H D s hD) hv, hdt.to show', hP, by omega⟩
end

end K13

set_option Elab.async false
set_option linter.all false
set_option maxRecDepth 100000
set_option maxHeartbeats 4000000
namespace K13
open PySem PySem.Spec PyProof.Rows L2 Hw

theorem DtAll.set {H : Hp} : ∀ (i : Nat) {vs : List V} {ds : List PyData} {v : V} {d : PyData}, DtAll H vs ds → Dt H v d → DtAll H (vs.set i v) (ds.set i d)
  | _, _, _, _, _, .nil, _ => .nil
  | 0, _, _, _, _, .cons _ r, h => .cons h r
  | i + 1, _, _, _, _, .cons x r, h => .cons x (DtAll.set i r h)
theorem mem_set {ds : List PyData} {i : Nat} {d x : PyData} (h : x ∈ ds.set i d) : x = d ∨ x ∈ ds := by
  rcases List.mem_or_eq_of_mem_set h with h | h
  · exact .inr h
  · exact .inl h
theorem Kn.and {l : List Addr} {tb : Tb} {kx : V} {S φ : Hp → Prop} (kn : Kn l tb kx S) (h : ∀ H H', φ H → Same H H' → φ H') : Kn l tb kx (fun H => S H ∧ φ H) := ⟨⟨fun H H' s e => ⟨kn.st.keep H H' s.1 e, h H H' s.2 e⟩, fun H p s => kn.st.new H p s.1⟩, fun H s => kn.dt H s.1, kn.good, kn.few⟩
/-- the list of what was found stands at F -/
def Fd (a F : Addr) (c : Nat) (H1 H' : Hp) : Prop := Same H1 H' ∧ ∃ vs ds, H' F = some (.lst vs) ∧ DtAll (offs [F, a] H') vs ds ∧ (∀ d ∈ ds, PEl d) ∧ ds.length ≤ c
theorem Fd.same {a F : Addr} {c : Nat} {H1 H' H2 : Hp} (f : Fd a F c H1 H') (e : Same H' H2) : Fd a F c H1 H2 := by
  obtain ⟨s, vs, ds, h1, h2, h3, h4⟩ := f
  exact ⟨s.trans e, vs, ds, e _ _ h1, h2.to (offs_mono e), h3, h4⟩
theorem Fd.app {a F : Addr} {c : Nat} {H1 H' : Hp} {x : V} (f : Fd a F c H1 H') (hF : H1 F = none) (hx : Hw.D [F, a] PEl x H') (hc : c ≤ 1000) :
    ∃ vs, H' F = some (.lst vs) ∧ vs.length < sizeLine ∧ Fd a F (c + 1) H1 (upd H' F (.lst (vs ++ [x]))) := by
  obtain ⟨s, vs, ds, h1, h2, h3, h4⟩ := f
  obtain ⟨d, hd, hp⟩ := hx
  have hl := h2.len
  refine ⟨vs, h1, by rw [sizeLine_eq]; omega, fun b o hb => ?_, vs ++ [x], ds ++ [d], upd_same, ?_, fun z hz => ?_, by rw [List.length_append]; show ds.length + 1 ≤ c + 1; omega⟩
  · rw [upd_ne (ne_of_none hb hF)]
    exact s b o hb
  · rw [offs_upd (List.mem_cons_self ..)]
    exact h2.app (.one hd)
  · rcases List.mem_append.mp hz with h | h
    · exact h3 z h
    · rw [List.mem_singleton.mp h]; exact hp
theorem Fd.up {a F : Addr} {c c' : Nat} {H1 H' : Hp} (f : Fd a F c H1 H') (h : c ≤ c') : Fd a F c' H1 H' := by
  obtain ⟨s, vs, ds, h1, h2, h3, h4⟩ := f
  exact ⟨s, vs, ds, h1, h2, h3, Nat.le_trans h4 h⟩
theorem Fd.ld {a F : Addr} {c : Nat} {H1 H' : Hp} (f : Fd a F c H1 H') (h : F ≠ a) : Hw.LD [a] PEl c (.ref F) H' := by
  obtain ⟨s, vs, ds, h1, h2, h3, h4⟩ := f
  exact ⟨F, vs, ds, rfl, offs_of (fun z => h (List.mem_singleton.mp z)) h1, h2.to show', h3, h4⟩
theorem bs_upd {S : Hp → Prop} {l : List Addr} {F : Addr} {tb : Tb} {kx : V} {H : Hp} {o : HO} (b : Beside S l F tb kx H) : Beside S l F tb kx (upd H F o) := by
  obtain ⟨h1, h2, h3⟩ := b
  refine ⟨(by rw [upd_same]; exact fun z => nomatch z), by rw [offs_upd (List.mem_cons_self ..)]; exact h2, fun p hp => h3 p ?_⟩
  by_cases e : p = F
  · rw [e, upd_same] at hp; cases hp
  · rw [upd_ne e] at hp; exact hp
def S0 (a : Addr) (tb : Tb) (kx : V) : Hp → Prop := fun H => H a ≠ none ∧ Dt (offs [a] H) kx tb.d
theorem kn0 {a : Addr} {tb : Tb} {kx : V} (g : tb.Good) (hf : tb.steps.length ≤ 5) : Kn [a] tb kx (S0 a tb kx) := ⟨⟨fun H H' s e => ⟨fun z => s.1 (e.free z), s.2.to (offs_mono e)⟩, fun H p s hp z => s.1 (by rw [← List.mem_singleton.mp z]; exact hp)⟩, fun H s => s.2, g, hf⟩
theorem bs_back {a F : Addr} {tb : Tb} {kx : V} {H : Hp} (b : Beside (S0 a tb kx) [a] F tb kx H) : S0 a tb kx H := ⟨fun z => b.2.2 a z (List.mem_singleton.mpr rfl), b.2.1.to show'⟩
section
variable {P : Program} {w : World} {K : PySem.W.Frag} {mg : Str → Option Value} {base : Heap}
def spBent : Sp := fun vs H Q _ => ∃ (a : Addr) (t m : Int) (kx : V) (tb : Tb), vs = [.ref a, kx] ∧ Gn a t m H ∧ m + 1000 < 4294967296 ∧ Dt (off a H) kx tb.d ∧ tb.Good ∧ tb.steps.length ≤ 5 ∧
  ∀ (x : V) (H' : Hp), SameX a H H' → Gn a t (m + 200) H' → Hw.LD [a] PEl 40 x H' → Q x H'
theorem ok_law_bent (T : Tx K mg) : FnG P w K mg base CX0 3 T.a_law_bent T.d_law_bent ["_law_generator_here", "_law_known"] spBent := by
  have G_law_random := ok_rnd (P := P) (w := w) (base := base) T
  have G_law_two := ok_law_two (P := P) (w := w) (base := base) T
  refine bodyG0 T.F_law_bent sc_law_bent (fun vs H Q E h => ?_) (fun cdv A outer s H vs Q E gd hr h => ?_)
  · obtain ⟨a, t, m, kx, tb, rfl, _⟩ := h; rfl
  · obtain ⟨a, t, m, kx, tb, rfl, g0, hm, dt0, good, few, q⟩ := h
    refine ⟨_, (pss_cons (ps_par (i := 2) (j := 3) rfl sc_law_bent.nd rfl rfl (by decide) rfl rfl (pa_cons (pe_g G_law_random gd (hr.mono (by decide)) (by rfl) T.g_law_random T.F_law_random.kp T.b_law_random .nil pass0 (pa_cons (pv 0) (pa_cons (pe_callB (call_lenK (K := K) rfl) (by rfl) T.z_len (by decide +kernel) (pa_cons (pe_ix (ix_tupK (K := K) rfl) (pv 1) pe_int (fun _ _ => rfl)) pa_nil)) pa_nil))) (pa_cons (pe_g G_law_random gd (hr.mono (by decide)) (by rfl) T.g_law_random T.F_law_random.kp T.b_law_random .nil pass0 (pa_cons (pv 0) (pa_cons (pe_g G_law_two gd (hr.mono (by decide)) (by rfl) T.g_law_two T.F_law_two.kp T.b_law_two .nil pass0 (pa_cons (pe_ix (ix_tupK (K := K) rfl) (pv 1) pe_int (fun _ _ => rfl)) pa_nil)) pa_nil))) pa_nil)) (by rfl))
      (pss_cons (ps_set (i := 4) sc_law_bent.nd rfl (Or.inl rfl) (pe_lst pa_nil))
      (pss_cons (ps_for PassesOwn.never rfl (pi_list (pe_lst (pa_cons (pe_un un_neg pe_int) (pa_cons (pe_callB (call_lenK (K := K) rfl) (by rfl) T.z_len (by decide +kernel) (pa_cons (pe_ix (ix_tupK (K := K) rfl) (pv 1) pe_int (fun _ _ => rfl)) pa_nil)) (pa_cons pe_non (pa_cons pe_bl (pa_cons pe_str (pa_cons (pe_lst (pa_cons pe_int pa_nil)) (pa_cons pe_int pa_nil))))))))) (pg_name (i := 5) sc_law_bent.nd rfl (Or.inl rfl)) (pss_cons (ps_set (i := 6) sc_law_bent.nd rfl (Or.inl rfl) (pe_callTy (call_listK (K := K) rfl) (by rfl) T.z_list (by decide +kernel) (pa_cons (pe_ix (ix_listK (K := K) rfl) (pe_ix (ix_tupK (K := K) rfl) (pv 1) pe_int (fun _ _ => rfl)) (pv 2) (fun _ _ => rfl)) pa_nil)))
      (pss_cons (ps_asg (pv 5) (pg_sub (pv 6) (pv 3) set_list))
      (pss_one (ps_expr (pe_bm PySem.F.plainAttrs_list PySem.F.slot_list_append PySem.F.type_list_append mt_append (pv 4) (pa_cons (pe_tup (pa_cons (pe_ix (ix_tupK (K := K) rfl) (pv 1) pe_int (fun _ _ => rfl)) (pa_cons (pe_op op_cat (pe_op op_cat (pe_slice (sl_listK (K := K) rfl) (pe_ix (ix_tupK (K := K) rfl) (pv 1) pe_int (fun _ _ => rfl)) po_none (po_some (pv 2))) (pe_lst (pa_cons (pv 6) pa_nil))) (pe_slice (sl_listK (K := K) rfl) (pe_ix (ix_tupK (K := K) rfl) (pv 1) pe_int (fun _ _ => rfl)) (po_some (pe_op op_add (pv 2) pe_int)) po_none)) (pa_cons (pe_ix (ix_tupK (K := K) rfl) (pv 1) pe_int (fun _ _ => rfl)) pa_nil)))) pa_nil)))))))
      (pss_cons (ps_for PassesOwn.never rfl (pi_list (pe_lst (pa_cons pe_non (pa_cons pe_int (pa_cons pe_int (pa_cons pe_str (pa_cons pe_bl pa_nil))))))) (pg_name (i := 5) sc_law_bent.nd rfl (Or.inl rfl)) (pss_one (ps_expr (pe_bm PySem.F.plainAttrs_list PySem.F.slot_list_append PySem.F.type_list_append mt_append (pv 4) (pa_cons (pe_tup (pa_cons (pe_ix (ix_tupK (K := K) rfl) (pv 1) pe_int (fun _ _ => rfl)) (pa_cons (pe_ix (ix_tupK (K := K) rfl) (pv 1) pe_int (fun _ _ => rfl)) (pa_cons (pe_op op_cat (pe_op op_cat (pe_slice (sl_listK (K := K) rfl) (pe_ix (ix_tupK (K := K) rfl) (pv 1) pe_int (fun _ _ => rfl)) po_none (po_some (pv 2))) (pe_lst (pa_cons (pv 5) pa_nil))) (pe_slice (sl_listK (K := K) rfl) (pe_ix (ix_tupK (K := K) rfl) (pv 1) pe_int (fun _ _ => rfl)) (po_some (pe_op op_add (pv 2) pe_int)) po_none)) pa_nil)))) pa_nil)))))
      (pss_cons (ps_set (i := 4) sc_law_bent.nd rfl (Or.inl rfl) (pe_op op_cat (pv 4) (pe_lst (pa_cons (pe_tup (pa_cons (pe_op op_add (pe_ix (ix_tupK (K := K) rfl) (pv 1) pe_int (fun _ _ => rfl)) pe_int) (pa_cons (pe_ix (ix_tupK (K := K) rfl) (pv 1) pe_int (fun _ _ => rfl)) (pa_cons (pe_ix (ix_tupK (K := K) rfl) (pv 1) pe_int (fun _ _ => rfl)) pa_nil)))) (pa_cons (pe_tup (pa_cons (pe_op op_sub (pe_ix (ix_tupK (K := K) rfl) (pv 1) pe_int (fun _ _ => rfl)) pe_int) (pa_cons (pe_ix (ix_tupK (K := K) rfl) (pv 1) pe_int (fun _ _ => rfl)) (pa_cons (pe_ix (ix_tupK (K := K) rfl) (pv 1) pe_int (fun _ _ => rfl)) pa_nil)))) (pa_cons (pe_tup (pa_cons pe_bl (pa_cons (pe_ix (ix_tupK (K := K) rfl) (pv 1) pe_int (fun _ _ => rfl)) (pa_cons (pe_ix (ix_tupK (K := K) rfl) (pv 1) pe_int (fun _ _ => rfl)) pa_nil)))) (pa_cons (pe_tup (pa_cons pe_int (pa_cons (pe_ix (ix_tupK (K := K) rfl) (pv 1) pe_int (fun _ _ => rfl)) (pa_cons (pe_ix (ix_tupK (K := K) rfl) (pv 1) pe_int (fun _ _ => rfl)) pa_nil)))) pa_nil)))))))
      (pss_cons (ps_set (i := 4) sc_law_bent.nd rfl (Or.inl rfl) (pe_op op_cat (pv 4) (pe_lst (pa_cons (pe_tup (pa_cons (pe_ix (ix_tupK (K := K) rfl) (pv 1) pe_int (fun _ _ => rfl)) (pa_cons (pe_op op_cat (pe_ix (ix_tupK (K := K) rfl) (pv 1) pe_int (fun _ _ => rfl)) (pe_lst (pa_cons (pe_ix (ix_listK (K := K) rfl) (pe_ix (ix_tupK (K := K) rfl) (pv 1) pe_int (fun _ _ => rfl)) pe_int (fun _ _ => rfl)) pa_nil))) (pa_cons (pe_ix (ix_tupK (K := K) rfl) (pv 1) pe_int (fun _ _ => rfl)) pa_nil)))) (pa_cons (pe_tup (pa_cons (pe_ix (ix_tupK (K := K) rfl) (pv 1) pe_int (fun _ _ => rfl)) (pa_cons (pe_ix (ix_tupK (K := K) rfl) (pv 1) pe_int (fun _ _ => rfl)) (pa_cons (pe_op op_cat (pe_ix (ix_tupK (K := K) rfl) (pv 1) pe_int (fun _ _ => rfl)) (pe_lst (pa_cons pe_bl pa_nil))) pa_nil)))) (pa_cons (pe_tup (pa_cons (pe_ix (ix_tupK (K := K) rfl) (pv 1) pe_int (fun _ _ => rfl)) (pa_cons (pe_lst pa_nil) (pa_cons (pe_lst pa_nil) pa_nil)))) (pa_cons (pe_callTy (call_listK (K := K) rfl) (by rfl) T.z_list (by decide +kernel) (pa_cons (pv 1) pa_nil)) (pa_cons (pe_slice (sl_tupK (K := K) rfl) (pv 1) po_none (po_some pe_int)) (pa_cons (pe_op op_catA (pv 1) (pe_tup (pa_cons pe_int pa_nil))) (pa_cons pe_non (pa_cons pe_int (pa_cons pe_dnewK (pa_cons pe_str pa_nil)))))))))))))
      (pss_cons (ps_for PassesOwn.never rfl (pi_list (pe_lst (pa_cons (pe_slice (sl_listK (K := K) rfl) (pe_ix (ix_listK (K := K) rfl) (pe_ix (ix_tupK (K := K) rfl) (pv 1) pe_int (fun _ _ => rfl)) (pv 2) (fun _ _ => rfl)) (po_some pe_int) po_none) (pa_cons (pe_op op_cat (pe_ix (ix_listK (K := K) rfl) (pe_ix (ix_tupK (K := K) rfl) (pv 1) pe_int (fun _ _ => rfl)) (pv 2) (fun _ _ => rfl)) (pe_lst (pa_cons pe_int pa_nil))) (pa_cons (pe_callTy (call_tupK (K := K) rfl) (by rfl) T.z_tuple (by decide +kernel) (pa_cons (pe_ix (ix_listK (K := K) rfl) (pe_ix (ix_tupK (K := K) rfl) (pv 1) pe_int (fun _ _ => rfl)) (pv 2) (fun _ _ => rfl)) pa_nil)) (pa_cons pe_non (pa_cons pe_int (pa_cons (pe_lst pa_nil) pa_nil)))))))) (pg_name (i := 6) sc_law_bent.nd rfl (Or.inl rfl)) (pss_one (ps_expr (pe_bm PySem.F.plainAttrs_list PySem.F.slot_list_append PySem.F.type_list_append mt_append (pv 4) (pa_cons (pe_tup (pa_cons (pe_ix (ix_tupK (K := K) rfl) (pv 1) pe_int (fun _ _ => rfl)) (pa_cons (pe_op op_cat (pe_op op_cat (pe_slice (sl_listK (K := K) rfl) (pe_ix (ix_tupK (K := K) rfl) (pv 1) pe_int (fun _ _ => rfl)) po_none (po_some (pv 2))) (pe_lst (pa_cons (pv 6) pa_nil))) (pe_slice (sl_listK (K := K) rfl) (pe_ix (ix_tupK (K := K) rfl) (pv 1) pe_int (fun _ _ => rfl)) (po_some (pe_op op_add (pv 2) pe_int)) po_none)) (pa_cons (pe_ix (ix_tupK (K := K) rfl) (pv 1) pe_int (fun _ _ => rfl)) pa_nil)))) pa_nil)))))
      (pss_cons (ps_set (i := 4) sc_law_bent.nd rfl (Or.inl rfl) (pe_op op_cat (pv 4) (pe_lst (pa_cons (pe_tup (pa_cons (pe_ix (ix_tupK (K := K) rfl) (pv 1) pe_int (fun _ _ => rfl)) (pa_cons (pe_callTy (call_tupK (K := K) rfl) (by rfl) T.z_tuple (by decide +kernel) (pa_cons (pe_ix (ix_tupK (K := K) rfl) (pv 1) pe_int (fun _ _ => rfl)) pa_nil)) (pa_cons (pe_ix (ix_tupK (K := K) rfl) (pv 1) pe_int (fun _ _ => rfl)) pa_nil)))) (pa_cons (pe_tup (pa_cons (pe_ix (ix_tupK (K := K) rfl) (pv 1) pe_int (fun _ _ => rfl)) (pa_cons (pe_ix (ix_tupK (K := K) rfl) (pv 1) pe_int (fun _ _ => rfl)) (pa_cons (pe_callTy (call_tupK (K := K) rfl) (by rfl) T.z_tuple (by decide +kernel) (pa_cons (pe_ix (ix_tupK (K := K) rfl) (pv 1) pe_int (fun _ _ => rfl)) pa_nil)) pa_nil)))) (pa_cons (pe_tup (pa_cons pe_int (pa_cons (pe_lst (pa_cons (pe_lst (pa_cons pe_int pa_nil)) pa_nil)) (pa_cons (pe_lst (pa_cons pe_bl pa_nil)) pa_nil)))) pa_nil))))))
      (pss_cons (ps_set (i := 4) sc_law_bent.nd rfl (Or.inl rfl) (pe_op op_cat (pv 4) (pe_lst (pa_cons (pe_tup (pa_cons (pe_ix (ix_tupK (K := K) rfl) (pv 1) pe_int (fun _ _ => rfl)) (pa_cons (pe_lc (own := [("_law_line", 6)]) (g := gName 6) (tt := tYes) rfl sc_law_bent.nd (pi_list (pe_ix (ix_tupK (K := K) rfl) (pv 1) pe_int (fun _ _ => rfl))) (blkOk_by (N := ["_law_generator_here", "_law_known", "_law_at", "_law_letter", "_law_found", "_law_odd", "_law_line"]) (sc := defScope s_law_bent) (by decide +kernel)) (fun _ _ _ _ _ => (pg_name (i := 6) sc_law_bent.nd rfl (Or.inl rfl))) (fun _ _ _ _ _ => pts_nil) (fun _ _ _ _ _ => (pe_callTy (call_tupK (K := K) rfl) (by rfl) T.z_tuple (by decide +kernel) (pa_cons (pv 6) pa_nil)))) (pa_cons (pe_ix (ix_tupK (K := K) rfl) (pv 1) pe_int (fun _ _ => rfl)) pa_nil)))) (pa_cons (pe_tup (pa_cons pe_non (pa_cons (pe_lst (pa_cons (pe_lst (pa_cons pe_int pa_nil)) pa_nil)) (pa_cons (pe_lst (pa_cons pe_bl pa_nil)) pa_nil)))) pa_nil)))))
      (pss_one (ps_ret (pe_op op_cat (pv 4) (pe_lst (pa_cons (pe_tup (pa_cons pe_int (pa_cons (pe_lst (pa_cons (pe_op op_rep (pe_lst (pa_cons pe_int pa_nil)) pe_int) pa_nil)) (pa_cons (pe_lst (pa_cons pe_bl pa_nil)) pa_nil)))) (pa_cons (pe_tup (pa_cons (pe_ix (ix_tupK (K := K) rfl) (pv 1) pe_int (fun _ _ => rfl)) (pa_cons (pe_lc (own := [("_law_line", 6)]) (g := gName 6) (tt := tYes) rfl sc_law_bent.nd (pi_list (pe_ix (ix_tupK (K := K) rfl) (pv 1) pe_int (fun _ _ => rfl))) (blkOk_by (N := ["_law_generator_here", "_law_known", "_law_at", "_law_letter", "_law_found", "_law_odd", "_law_line"]) (sc := defScope s_law_bent) (by decide +kernel)) (fun _ _ _ _ _ => (pg_name (i := 6) sc_law_bent.nd rfl (Or.inl rfl))) (fun _ _ _ _ _ => pts_nil) (fun _ _ _ _ _ => (pe_op op_cat (pv 6) (pe_lst (pa_cons pe_int pa_nil))))) (pa_cons (pe_ix (ix_tupK (K := K) rfl) (pv 1) pe_int (fun _ _ => rfl)) pa_nil)))) (pa_cons (pe_tup (pa_cons (pe_ix (ix_tupK (K := K) rfl) (pv 1) pe_int (fun _ _ => rfl)) (pa_cons (pe_lst (pa_cons pe_non pa_nil)) (pa_cons (pe_lst (pa_cons pe_bl pa_nil)) pa_nil)))) pa_nil)))))))))))))))), ?_⟩
    obtain ⟨ka, kb, kc, ys, rfl, ha, hb, hyl, hrow, hc, _⟩ := dt0.tab
    have sz : tb.steps.length < 2 ^ 2000 := Nat.lt_of_le_of_lt few (by decide +kernel)
    have p64 := pow64 good
    have sz2 : 2 ^ tb.many < 2 ^ 2000 := Nat.lt_of_le_of_lt p64 (by decide +kernel)
    have := good.many
    have := good.some
    refine ⟨_, rfl, _, rfl, ka, _, 1, _, rfl, rfl, .inl (.inl (off_at ha).2), rfl, kb, ys, rfl, .inl (.inl (.inl (off_at hb).2)), a, ys.length, t, m, rfl, g0, by omega, by omega, by rw [hyl]; exact sz, fun at_ H1 hat x1 g1 => ?_⟩
    rw [hyl] at hat
    have ha1 := x1.off _ _ ha
    refine ⟨_, rfl, _, rfl, ka, _, 0, _, rfl, rfl, .inl (.inl (off_at ha1).2), rfl, tb.many, rfl, by omega, a, 2 ^ tb.many, t, m + 100, rfl, g1, by omega, Nat.two_pow_pos _, sz2, fun le H2 hle x2 g2 => ?_⟩
    have xx := x1.trans x2
    have dt2 : Dt (offs [a] H2) (.ref ka) tb.d := by rw [← offs_one]; exact dt0.to xx.off
    refine ⟨_, _, rfl, ?_⟩
    have s02 : S0 a tb (.ref ka) H2 := ⟨(by obtain ⟨s, c, e, _⟩ := g2; rw [e]; exact fun z => nomatch z), dt2⟩
    have k0 := kn0 (a := a) (kx := .ref ka) good few
    refine ⟨Nat.zero_le _, fun F hF => ?_⟩
    dsimp only [gName]
    have Fa : F ≠ a := g2.ne hF
    have e3 : Same H2 (upd H2 F (.lst [])) := same_new' hF
    have f3 : Fd a F 0 H2 (upd H2 F (.lst [])) := ⟨e3, [], [], upd_same, .nil, (fun d hd => nomatch hd), Nat.le_refl _⟩
    have b3 : Beside (S0 a tb (.ref ka)) [a] F tb (.ref ka) (upd H2 F (.lst [])) := k0.start s02 hF e3 (by rw [upd_same]; exact fun z => nomatch z)
    generalize (upd H2 F (.lst [])) = H3 at e3 f3 b3
    have kF := k0.beside F
    -- the first loop
    have kn := kF
    have st := kF.st
    refine seqL (forL ((Ev.lst st (Eva.cons st (Ev.neg 1) (Eva.cons st (Ev.len (kn.k1 rfl)) (Eva.cons st Ev.non (Eva.cons st (Ev.bl true) (Eva.cons st (Ev.str "0") (Eva.cons st (Ev.ld (k := 0) (b := 0) (n := 1) (Ev.lst st (Eva.cons st (Ev.int 0) Eva.nil))) (Eva.cons st (Ev.int 0) Eva.nil))))))) : Ev _ (Hw.LD [F, a] (Bnd 1 1) 7) _ [some (.ref a), some (.ref ka), some (.int (at_ : Int)), some (.int (le : Int)), some (.ref F), none, none]) H3 _ b3 ?_))
    rintro x H4 e4 ⟨p4, vs4, ds4, rfl, hp4, hd4, hP4, hn4⟩
    have f4 := f3.same e4
    have b4 := kF.st.keep _ _ b3 e4
    have l4 := hd4.len
    refine ⟨p4, rfl, ⟨vs4, .inl (.inl (offs_at hp4).2)⟩, ?_⟩
    refine for_list (K := K) (a := p4) (xs := vs4) (fun i σ H' => Fd a F i H2 H' ∧ Beside (S0 a tb (.ref ka)) [a] F tb (.ref ka) H' ∧ Same (offs [F, a] H4) (offs [F, a] H') ∧ ∃ z5 z6 : Option V, σ = [some (.ref a), some (.ref ka), some (.int (at_ : Int)), some (.int (le : Int)), some (.ref F), z5, z6])
      ⟨f4, b4, Same.refl _, none, none, rfl⟩ (fun i σ H' _ e => .inl (.inl (offs_at (e.2.2.1 _ _ hp4)).2)) ?_ ?_
    · rintro i x σ H5 hi ⟨f5, b5, o5, z5, z6, rfl⟩
      obtain ⟨d, hdi, hx⟩ := hd4.get i x hi
      have hPd := hP4 d (List.mem_of_getElem? hdi)
      have il : i < ds4.length := (List.getElem?_eq_some_iff.mp hdi).1
      have hx := hx.to o5
      have dt5 := b5.2.1
      obtain ⟨ka5, kb5, kc5, ys5, e5, ha5, hb5, hyl5, hrow5, _⟩ := dt5.tab
      cases e5
      obtain ⟨r5, hr5, hr6⟩ := hrow5 at_ _ (List.getElem?_eq_getElem hat)
      have lmem := List.getElem_mem hat
      generalize tb.steps[at_] = li at hr6 lmem
      have lil := good.line li lmem
      refine ⟨_, rfl, ka, _, 1, _, rfl, rfl, .inl (.inl (offs_at ha5).2), rfl, _, rfl, kb5, ys5, at_, _, rfl, rfl, .inl (.inl (offs_at hb5).2), atI_nat hr5, r5, natV li, rfl, .inl (.inl (.inl (offs_at hr6).2)), fun z hz => ?_⟩
      refine ⟨_, rfl, _, rfl, _, rfl, z, _, _, le, rfl, rfl, upd_same, ixn (by rw [List.length_map, lil]; exact hle), ?_⟩
      rw [upd_upd]
      have e6 : Same H5 (upd H5 z (.lst ((natV li).set le x))) := same_new' hz
      have zn := kF.st.new H5 z b5 hz
      have dl : Hw.D [F, a] (Bnd 2 128) (.ref z) (upd H5 z (.lst ((natV li).set le x))) := by
        refine ⟨.list ((natD li).set le d), .lst (offs_of zn upd_same) (K13.DtAll.set le (DtAll.nats li) (hx.to (offs_mono e6))), ?_⟩
        refine Bnd.list (k := 1) (b := 1) (n := 64) (fun y hy => ?_) (by rw [List.length_set, List.length_map, lil]; exact p64) (by decide)
        rcases mem_set hy with rfl | hy
        · exact hPd
        · obtain ⟨c, hc, rfl⟩ := List.mem_map.mp hy
          have := good.stand li lmem c hc
          exact .int (by omega)
      have f6 := f5.same e6
      have b6 := kF.st.keep _ _ b5 e6
      have o6 := o5.trans (offs_mono (l := [F, a]) e6)
      generalize (upd H5 z (.lst ((natV li).set le x))) = H6 at dl f6 b6 o6
      obtain ⟨vs6, ds6, hv6, _⟩ := f6.2
      have kn := kF.and (φ := fun H => Hw.D [F, a] (Bnd 2 128) (.ref z) H) (fun _ _ h e => h.same e)
      have st := kn.st
      have hodd : ∀ H, (Beside (S0 a tb (.ref ka)) [a] F tb (.ref ka) H ∧ Hw.D [F, a] (Bnd 2 128) (.ref z) H) → Hw.D [F, a] (Bnd 2 128) (.ref z) H := fun _ h => h.2
      refine ⟨_, rfl, .inl ⟨rfl, _, .inl (.inl hv6)⟩, ?_⟩
      refine Ev.arg ((Ev.pe (Ev.td (k := 3) (b := 2000) (n := 3) (Ev.tup st (Eva.cons st (kn.k0 rfl) (Eva.cons st (Ev.ld (k := 2) (b := 128) (n := 11) (Ev.cat st (n := 6) (n' := 5) (Ev.cat st (n := 5) (n' := 1) (Ev.cut st (Ev.lu (kn.k1 rfl)) Evo.no (Evo.some (Ev.varI rfl))) (Ev.lst st (Eva.cons st (Ev.var rfl hodd) Eva.nil))) (Ev.cut st (Ev.lu (kn.k1 rfl)) (Evo.some (Ev.addI (Ev.varI rfl) (Ev.intI 1) st.keep)) Evo.no))) (Eva.cons st (Ev.ld (k := 2) (b := 128) (n := 5) (Ev.lu (kn.k2 rfl))) Eva.nil)))))) : Ev _ (Hw.D [F, a] PEl) _ [some (.ref a), some (.ref ka), some (.int (at_ : Int)), some (.int (le : Int)), some (.ref F), some x, some (.ref z)]) ⟨b6, dl⟩ ?_
      rintro y H7 e7 hy
      obtain ⟨vs7, hv7, lt7, f7⟩ := (f6.same e7).app hF hy (by omega)
      exact ⟨F, vs7, y, rfl, rfl, hv7, lt7, f7, bs_upd (kF.st.keep _ _ b6 e7), (by rw [offs_upd (List.mem_cons_self ..)]; exact o6.trans (offs_mono e7)), _, _, rfl⟩
    rintro σ H5 ⟨f5, b5, o5, y5, y6, rfl⟩
    have f5 := f5.up (show vs4.length ≤ 7 by omega)
    clear o5
    dsimp only [gName]
    have st := kF.st
    have kn := kF
    refine seqL (forL ((Ev.lst st (Eva.cons st Ev.non (Eva.cons st (Ev.int 0) (Eva.cons st (Ev.int 1) (Eva.cons st (Ev.str "") (Eva.cons st (Ev.bl false) Eva.nil))))) : Ev _ (Hw.LD [F, a] (Bnd 2 128) 5) _ [some (.ref a), some (.ref ka), some (.int (at_ : Int)), some (.int (le : Int)), some (.ref F), y5, y6]) H5 _ b5 ?_))
    rintro _ H2a e2a ⟨p2, vs2, ds2, rfl, hp2, hd2, hP2, hn2⟩
    have f2a := f5.same e2a
    have b2a := kF.st.keep _ _ b5 e2a
    have l2 := hd2.len
    refine ⟨p2, rfl, ⟨vs2, .inl (.inl (offs_at hp2).2)⟩, ?_⟩
    refine for_list (K := K) (a := p2) (xs := vs2) (fun i σ H' => Fd a F (7 + i) H2 H' ∧ Beside (S0 a tb (.ref ka)) [a] F tb (.ref ka) H' ∧ Same (offs [F, a] H2a) (offs [F, a] H') ∧ ∃ w5 : Option V, σ = [some (.ref a), some (.ref ka), some (.int (at_ : Int)), some (.int (le : Int)), some (.ref F), w5, y6])
      ⟨f2a, b2a, Same.refl _, _, rfl⟩ (fun i σ H' _ e => .inl (.inl (offs_at (e.2.2.1 _ _ hp2)).2)) ?_ ?_
    · rintro i x σ H6 hi ⟨f6, b6, o6, w5, rfl⟩
      obtain ⟨d, hdi, hx⟩ := hd2.get i x hi
      have hPd := hP2 d (List.mem_of_getElem? hdi)
      have il : i < ds2.length := (List.getElem?_eq_some_iff.mp hdi).1
      have dx : Hw.D [F, a] (Bnd 2 128) x H6 := ⟨d, hx.to o6, hPd⟩
      obtain ⟨vs6, ds6, hv6, _⟩ := f6.2
      have kn := kF.and (φ := fun H => Hw.D [F, a] (Bnd 2 128) x H) (fun _ _ h e => h.same e)
      have st := kn.st
      have hodd : ∀ H, (Beside (S0 a tb (.ref ka)) [a] F tb (.ref ka) H ∧ Hw.D [F, a] (Bnd 2 128) x H) → Hw.D [F, a] (Bnd 2 128) x H := fun _ h => h.2
      refine ⟨_, rfl, .inl ⟨rfl, _, .inl (.inl hv6)⟩, ?_⟩
      refine Ev.arg ((Ev.pe (Ev.td (k := 3) (b := 2000) (n := 3) (Ev.tup st (Eva.cons st (kn.k0 rfl) (Eva.cons st (Ev.ld (k := 2) (b := 128) (n := 5) (Ev.lu (kn.k1 rfl))) (Eva.cons st (Ev.ld (k := 2) (b := 128) (n := 11) (Ev.cat st (n := 6) (n' := 5) (Ev.cat st (n := 5) (n' := 1) (Ev.cut st (Ev.lu (kn.k2 rfl)) Evo.no (Evo.some (Ev.varI rfl))) (Ev.lst st (Eva.cons st (Ev.var rfl hodd) Eva.nil))) (Ev.cut st (Ev.lu (kn.k2 rfl)) (Evo.some (Ev.addI (Ev.varI rfl) (Ev.intI 1) st.keep)) Evo.no))) Eva.nil)))))) : Ev _ (Hw.D [F, a] PEl) _ [some (.ref a), some (.ref ka), some (.int (at_ : Int)), some (.int (le : Int)), some (.ref F), some x, y6]) ⟨b6, dx⟩ ?_
      rintro y H7 e7 hy
      obtain ⟨vs7, hv7, lt7, f7⟩ := (f6.same e7).app hF hy (by omega)
      exact ⟨F, vs7, y, rfl, rfl, hv7, lt7, f7, bs_upd (kF.st.keep _ _ b6 e7), (by rw [offs_upd (List.mem_cons_self ..)]; exact o6.trans (offs_mono e7)), _, rfl⟩
    rintro σ H2z ⟨f2, b2, o2, y5, rfl⟩
    have f2 := f2.up (show 7 + vs2.length ≤ 7+5 by omega)
    clear o2
    have t2 := f2.1
    have ld2 := f2.ld Fa
    have s2 := bs_back b2
    dsimp only [gName]
    have kn := k0.and (φ := fun H => Hw.LD [a] PEl 12 (.ref F) H) (fun _ _ h e => h.same e)
    have st := kn.st
    have hfound : ∀ H, (S0 a tb (.ref ka) H ∧ Hw.LD [a] PEl 12 (.ref F) H) → Hw.LD [a] PEl 12 (.ref F) H := fun _ h => h.2
    refine seqL (setL ((Ev.cat st (n := 12) (n' := 4) (Ev.var rfl hfound) (Ev.lst st (Eva.cons st (Ev.pe (Ev.td (k := 3) (b := 2000) (n := 3) (Ev.tup st (Eva.cons st (kn.plus rfl) (Eva.cons st (Ev.ld (k := 2) (b := 128) (n := 5) (Ev.lu (kn.k1 rfl))) (Eva.cons st (Ev.ld (k := 2) (b := 128) (n := 5) (Ev.lu (kn.k2 rfl))) Eva.nil)))))) (Eva.cons st (Ev.pe (Ev.td (k := 3) (b := 2000) (n := 3) (Ev.tup st (Eva.cons st (kn.minus rfl) (Eva.cons st (Ev.ld (k := 2) (b := 128) (n := 5) (Ev.lu (kn.k1 rfl))) (Eva.cons st (Ev.ld (k := 2) (b := 128) (n := 5) (Ev.lu (kn.k2 rfl))) Eva.nil)))))) (Eva.cons st (Ev.pe (Ev.td (k := 3) (b := 2000) (n := 3) (Ev.tup st (Eva.cons st (Ev.bl true) (Eva.cons st (Ev.ld (k := 2) (b := 128) (n := 5) (Ev.lu (kn.k1 rfl))) (Eva.cons st (Ev.ld (k := 2) (b := 128) (n := 5) (Ev.lu (kn.k2 rfl))) Eva.nil)))))) (Eva.cons st (Ev.pe (Ev.td (k := 3) (b := 2000) (n := 3) (Ev.tup st (Eva.cons st (Ev.int 7) (Eva.cons st (Ev.ld (k := 2) (b := 128) (n := 5) (Ev.lu (kn.k1 rfl))) (Eva.cons st (Ev.ld (k := 2) (b := 128) (n := 5) (Ev.lu (kn.k2 rfl))) Eva.nil)))))) Eva.nil))))) : Ev _ (Hw.LD [a] PEl 16) _ [some (.ref a), some (.ref ka), some (.int (at_ : Int)), some (.int (le : Int)), some (.ref F), y5, y6]) H2z _ ⟨s2, ld2⟩ ?_))
    rintro x3 H3c e3c hx3
    have s3 := k0.st.keep _ _ s2 e3c
    dsimp only [gName]
    have st := k0.st
    have kn := k0
    refine seqL (setL ⟨_, rfl, (Ev.lst st (Eva.cons st (Ev.pe (Ev.td (k := 3) (b := 2000) (n := 3) (Ev.tup st (Eva.cons st (kn.k0 rfl) (Eva.cons st (Ev.ld (k := 2) (b := 128) (n := 6) (Ev.cat st (n := 5) (n' := 1) (Ev.lu (kn.k1 rfl)) (Ev.lst st (Eva.cons st (Ev.ld (k := 0) (b := 0) (n := 64) (kn.kl0 rfl)) Eva.nil)))) (Eva.cons st (Ev.ld (k := 2) (b := 128) (n := 5) (Ev.lu (kn.k2 rfl))) Eva.nil)))))) (Eva.cons st (Ev.pe (Ev.td (k := 3) (b := 2000) (n := 3) (Ev.tup st (Eva.cons st (kn.k0 rfl) (Eva.cons st (Ev.ld (k := 2) (b := 128) (n := 5) (Ev.lu (kn.k1 rfl))) (Eva.cons st (Ev.ld (k := 2) (b := 128) (n := 6) (Ev.cat st (n := 5) (n' := 1) (Ev.lu (kn.k2 rfl)) (Ev.lst st (Eva.cons st (Ev.bl true) Eva.nil)))) Eva.nil)))))) (Eva.cons st (Ev.pe (Ev.td (k := 3) (b := 2000) (n := 3) (Ev.tup st (Eva.cons st (kn.k0 rfl) (Eva.cons st (Ev.ld (k := 2) (b := 128) (n := 0) (Ev.lst st Eva.nil)) (Eva.cons st (Ev.ld (k := 2) (b := 128) (n := 0) (Ev.lst st Eva.nil)) Eva.nil)))))) (Eva.cons st (Ev.pe (Ev.ld (k := 2) (b := 330) (n := 3) (Ev.listT st (kn.ktup rfl)))) (Eva.cons st (Ev.pe (Ev.td (k := 2) (b := 330) (n := 3) (Ev.cutT st (kn.ktup rfl) Evo.no (Evo.some (Ev.intI 2))))) (Eva.cons st (Ev.pe (Ev.td (k := 2) (b := 330) (n := 4) (Ev.catT st (n := 3) (n' := 1) (kn.ktup rfl) (Ev.tup st (Eva.cons st (Ev.int 0) Eva.nil))))) (Eva.cons st (Ev.pe Ev.non) (Eva.cons st (Ev.pe (Ev.int 5)) (Eva.cons st (Ev.dnew st) (Eva.cons st (Ev.pe (Ev.str "table")) Eva.nil)))))))))) : Ev _ (Hw.LD [a] PEl 10) _ [some (.ref a), some (.ref ka), some (.int (at_ : Int)), some (.int (le : Int)), some x3, y5, y6]) H3c _ s3 ?_⟩)
    rintro _ H8 e8 ⟨p8, ws, es, rfl, hp8, hd8, hP8, hn8⟩
    obtain ⟨p7, vs7, ds7, rfl, hp7, hd7, hP7, hn7⟩ := hx3.same e8
    have s8 := k0.st.keep _ _ s3 e8
    have l7 := hd7.len
    have l8 := hd8.len
    refine ⟨p7, p8, vs7, ws, rfl, rfl, (offs_at hp7).2, (offs_at hp8).2, by rw [sizeLine_eq]; omega, fun G hG => ?_⟩
    have Ga : G ≠ a := fun z => s8.1 (by rw [← z]; exact hG)
    have t8 : Same H2 H8 := (t2.trans e3c).trans e8
    have e9 : Same H8 (upd H8 G (.lst (vs7 ++ ws))) := same_new' hG
    have f9 : Fd a G 26 H8 (upd H8 G (.lst (vs7 ++ ws))) := ⟨e9, _, ds7 ++ es, upd_same, (hd7.app hd8).to (hide hG e9), (fun d hd => (List.mem_append.mp hd).elim (hP7 d) (hP8 d)), by rw [List.length_append]; omega⟩
    have b9 : Beside (S0 a tb (.ref ka)) [a] G tb (.ref ka) (upd H8 G (.lst (vs7 ++ ws))) := k0.start s8 hG e9 (by rw [upd_same]; exact fun z => nomatch z)
    generalize (upd H8 G (.lst (vs7 ++ ws))) = H9 at e9 f9 b9
    have kG := k0.beside G
    dsimp only [gName]
    have st := kG.st
    have kn := kG
    refine seqL (forL ((Ev.lst st (Eva.cons st (Ev.ld (k := 0) (b := 0) (n := 64) (Ev.cut st (kn.kl rfl (Ev.ats rfl) hat) (Evo.some (Ev.intI 1)) Evo.no)) (Eva.cons st (Ev.ld (k := 0) (b := 0) (n := 65) (Ev.cat st (n := 64) (n' := 1) (kn.kl rfl (Ev.ats rfl) hat) (Ev.lst st (Eva.cons st (Ev.int 0) Eva.nil)))) (Eva.cons st (Ev.td (k := 0) (b := 0) (n := 64) (Ev.tupL st (kn.kl rfl (Ev.ats rfl) hat))) (Eva.cons st Ev.non (Eva.cons st (Ev.int 0) (Eva.cons st (Ev.ld (k := 0) (b := 0) (n := 0) (Ev.lst st Eva.nil)) Eva.nil)))))) : Ev _ (Hw.LD [G, a] (Bnd 2 128) 6) _ [some (.ref a), some (.ref ka), some (.int (at_ : Int)), some (.int (le : Int)), some (.ref G), y5, y6]) H9 _ b9 ?_))
    rintro _ H10a e10a ⟨p10, vs10, ds10, rfl, hp10, hd10, hP10, hn10⟩
    have f10a := f9.same e10a
    have b10a := kG.st.keep _ _ b9 e10a
    have l10 := hd10.len
    refine ⟨p10, rfl, ⟨vs10, .inl (.inl (offs_at hp10).2)⟩, ?_⟩
    refine for_list (K := K) (a := p10) (xs := vs10) (fun i σ H' => Fd a G (26 + i) H8 H' ∧ Beside (S0 a tb (.ref ka)) [a] G tb (.ref ka) H' ∧ Same (offs [G, a] H10a) (offs [G, a] H') ∧ ∃ w6 : Option V, σ = [some (.ref a), some (.ref ka), some (.int (at_ : Int)), some (.int (le : Int)), some (.ref G), y5, w6])
      ⟨f10a, b10a, Same.refl _, _, rfl⟩ (fun i σ H' _ e => .inl (.inl (offs_at (e.2.2.1 _ _ hp10)).2)) ?_ ?_
    · rintro i x σ H6 hi ⟨f6, b6, o6, w6, rfl⟩
      obtain ⟨d, hdi, hx⟩ := hd10.get i x hi
      have hPd := hP10 d (List.mem_of_getElem? hdi)
      have il : i < ds10.length := (List.getElem?_eq_some_iff.mp hdi).1
      have dx : Hw.D [G, a] (Bnd 2 128) x H6 := ⟨d, hx.to o6, hPd⟩
      obtain ⟨vs6, ds6, hv6, _⟩ := f6.2
      have kn := kG.and (φ := fun H => Hw.D [G, a] (Bnd 2 128) x H) (fun _ _ h e => h.same e)
      have st := kn.st
      have hodd : ∀ H, (Beside (S0 a tb (.ref ka)) [a] G tb (.ref ka) H ∧ Hw.D [G, a] (Bnd 2 128) x H) → Hw.D [G, a] (Bnd 2 128) x H := fun _ h => h.2
      refine ⟨_, rfl, .inl ⟨rfl, _, .inl (.inl hv6)⟩, ?_⟩
      refine Ev.arg ((Ev.pe (Ev.td (k := 3) (b := 2000) (n := 3) (Ev.tup st (Eva.cons st (kn.k0 rfl) (Eva.cons st (Ev.ld (k := 2) (b := 128) (n := 11) (Ev.cat st (n := 6) (n' := 5) (Ev.cat st (n := 5) (n' := 1) (Ev.cut st (Ev.lu (kn.k1 rfl)) Evo.no (Evo.some (Ev.varI rfl))) (Ev.lst st (Eva.cons st (Ev.var rfl hodd) Eva.nil))) (Ev.cut st (Ev.lu (kn.k1 rfl)) (Evo.some (Ev.addI (Ev.varI rfl) (Ev.intI 1) st.keep)) Evo.no))) (Eva.cons st (Ev.ld (k := 2) (b := 128) (n := 5) (Ev.lu (kn.k2 rfl))) Eva.nil)))))) : Ev _ (Hw.D [G, a] PEl) _ [some (.ref a), some (.ref ka), some (.int (at_ : Int)), some (.int (le : Int)), some (.ref G), y5, some x]) ⟨b6, dx⟩ ?_
      rintro y H7 e7 hy
      obtain ⟨vs7, hv7, lt7, f7⟩ := (f6.same e7).app hG hy (by omega)
      exact ⟨G, vs7, y, rfl, rfl, hv7, lt7, f7, bs_upd (kG.st.keep _ _ b6 e7), (by rw [offs_upd (List.mem_cons_self ..)]; exact o6.trans (offs_mono e7)), _, rfl⟩
    rintro σ H10z ⟨f10, b10, o10, y6, rfl⟩
    have f10 := f10.up (show 26 + vs10.length ≤ 26+6 by omega)
    clear o10
    have t10 := t8.trans f10.1
    have ld10 := f10.ld Ga
    have s10 := bs_back b10
    dsimp only [gName]
    have kn := k0.and (φ := fun H => Hw.LD [a] PEl 32 (.ref G) H) (fun _ _ h e => h.same e)
    have st := kn.st
    have hfound : ∀ H, (S0 a tb (.ref ka) H ∧ Hw.LD [a] PEl 32 (.ref G) H) → Hw.LD [a] PEl 32 (.ref G) H := fun _ h => h.2
    refine seqL (setL ((Ev.cat st (n := 32) (n' := 3) (Ev.var rfl hfound) (Ev.lst st (Eva.cons st (Ev.pe (Ev.td (k := 3) (b := 2000) (n := 3) (Ev.tup st (Eva.cons st (kn.k0 rfl) (Eva.cons st (Ev.td (k := 2) (b := 128) (n := 5) (Ev.tupL st (Ev.lu (kn.k1 rfl)))) (Eva.cons st (Ev.ld (k := 2) (b := 128) (n := 5) (Ev.lu (kn.k2 rfl))) Eva.nil)))))) (Eva.cons st (Ev.pe (Ev.td (k := 3) (b := 2000) (n := 3) (Ev.tup st (Eva.cons st (kn.k0 rfl) (Eva.cons st (Ev.ld (k := 2) (b := 128) (n := 5) (Ev.lu (kn.k1 rfl))) (Eva.cons st (Ev.td (k := 2) (b := 128) (n := 5) (Ev.tupL st (Ev.lu (kn.k2 rfl)))) Eva.nil)))))) (Eva.cons st (Ev.pe (Ev.td (k := 3) (b := 2000) (n := 3) (Ev.tup st (Eva.cons st (Ev.int 0) (Eva.cons st (Ev.ld (k := 2) (b := 128) (n := 1) (Ev.lst st (Eva.cons st (Ev.ld (k := 0) (b := 0) (n := 1) (Ev.lst st (Eva.cons st (Ev.int 0) Eva.nil))) Eva.nil))) (Eva.cons st (Ev.ld (k := 2) (b := 128) (n := 1) (Ev.lst st (Eva.cons st (Ev.bl true) Eva.nil))) Eva.nil)))))) Eva.nil)))) : Ev _ (Hw.LD [a] PEl 35) _ [some (.ref a), some (.ref ka), some (.int (at_ : Int)), some (.int (le : Int)), some (.ref G), y5, y6]) H10z _ ⟨s10, ld10⟩ ?_))
    rintro x11 H11c e11c hx11
    have s11 := k0.st.keep _ _ s10 e11c
    dsimp only [gName]
    have kn := k0.and (φ := fun H => Hw.LD [a] PEl 35 x11 H) (fun _ _ h e => h.same e)
    have st := kn.st
    have hfound : ∀ H, (S0 a tb (.ref ka) H ∧ Hw.LD [a] PEl 35 x11 H) → Hw.LD [a] PEl 35 x11 H := fun _ h => h.2
    refine seqL (setL ((Ev.cat st (n := 35) (n' := 2) (Ev.var rfl hfound) (Ev.lst st (Eva.cons st (Ev.pe (Ev.td (k := 3) (b := 2000) (n := 3) (Ev.tup st (Eva.cons st (kn.k0 rfl) (Eva.cons st (Ev.ld (k := 2) (b := 128) (n := 5) (kn.lc rfl (fun l S st x hx => Ev.td (k := 0) (b := 0) (n := 64) (Ev.tupL st (Ev.var rfl hx))) (fun _ => rfl))) (Eva.cons st (Ev.ld (k := 2) (b := 128) (n := 5) (Ev.lu (kn.k2 rfl))) Eva.nil)))))) (Eva.cons st (Ev.pe (Ev.td (k := 3) (b := 2000) (n := 3) (Ev.tup st (Eva.cons st Ev.non (Eva.cons st (Ev.ld (k := 2) (b := 128) (n := 1) (Ev.lst st (Eva.cons st (Ev.ld (k := 0) (b := 0) (n := 1) (Ev.lst st (Eva.cons st (Ev.int 0) Eva.nil))) Eva.nil))) (Eva.cons st (Ev.ld (k := 2) (b := 128) (n := 1) (Ev.lst st (Eva.cons st (Ev.bl true) Eva.nil))) Eva.nil)))))) Eva.nil))) : Ev _ (Hw.LD [a] PEl 37) _ [some (.ref a), some (.ref ka), some (.int (at_ : Int)), some (.int (le : Int)), some x11, y5, y6]) H11c _ ⟨s11, hx11⟩ ?_))
    rintro x12 H12c e12c hx12
    have s12 := k0.st.keep _ _ s11 e12c
    dsimp only [gName]
    have kn := k0.and (φ := fun H => Hw.LD [a] PEl 37 x12 H) (fun _ _ h e => h.same e)
    have st := kn.st
    have hfound : ∀ H, (S0 a tb (.ref ka) H ∧ Hw.LD [a] PEl 37 x12 H) → Hw.LD [a] PEl 37 x12 H := fun _ h => h.2
    refine retL ((Ev.cat st (n := 37) (n' := 3) (Ev.var rfl hfound) (Ev.lst st (Eva.cons st (Ev.pe (Ev.td (k := 3) (b := 2000) (n := 3) (Ev.tup st (Eva.cons st (Ev.int 6) (Eva.cons st (Ev.ld (k := 2) (b := 128) (n := 1) (Ev.lst st (Eva.cons st (Ev.ld (k := 0) (b := 0) (n := 64) (Ev.rep st (j := 64) (Ev.lst st (Eva.cons st (Ev.int 0) Eva.nil)))) Eva.nil))) (Eva.cons st (Ev.ld (k := 2) (b := 128) (n := 1) (Ev.lst st (Eva.cons st (Ev.bl false) Eva.nil))) Eva.nil)))))) (Eva.cons st (Ev.pe (Ev.td (k := 3) (b := 2000) (n := 3) (Ev.tup st (Eva.cons st (kn.k0 rfl) (Eva.cons st (Ev.ld (k := 2) (b := 128) (n := 5) (kn.lc rfl (fun l S st x hx => Ev.ld (k := 0) (b := 0) (n := 65) (Ev.cat st (n := 64) (n' := 1) (Ev.var rfl hx) (Ev.lst st (Eva.cons st (Ev.int 0) Eva.nil)))) (fun _ => rfl))) (Eva.cons st (Ev.ld (k := 2) (b := 128) (n := 5) (Ev.lu (kn.k2 rfl))) Eva.nil)))))) (Eva.cons st (Ev.pe (Ev.td (k := 3) (b := 2000) (n := 3) (Ev.tup st (Eva.cons st (kn.k0 rfl) (Eva.cons st (Ev.ld (k := 2) (b := 128) (n := 1) (Ev.lst st (Eva.cons st Ev.non Eva.nil))) (Eva.cons st (Ev.ld (k := 2) (b := 128) (n := 1) (Ev.lst st (Eva.cons st (Ev.bl true) Eva.nil))) Eva.nil)))))) Eva.nil)))) : Ev _ (Hw.LD [a] PEl 40) _ [some (.ref a), some (.ref ka), some (.int (at_ : Int)), some (.int (le : Int)), some x12, y5, y6]) H12c _ ⟨s12, hx12⟩ ?_)
    rintro x13 H13c e13c hx13
    have s13 := k0.st.keep _ _ s12 e13c
    have t13 := ((t10.trans e11c).trans e12c).trans e13c
    exact q x13 H13c (xx.trans (SameX.of t13)) ((g2.same t13).up (by omega)) hx13
end

end K13

set_option Elab.async false
set_option linter.all false
set_option maxRecDepth 100000
set_option maxHeartbeats 4000000
namespace K13
open PySem PySem.Spec PyProof.Rows L2 Hw

theorem col_bit (b p i : Nat) : (b : Int) / ((2 ^ p : Nat) : Int) % 2 * ((2 ^ i : Nat) : Int) = ((bitN b p * 2 ^ i : Nat) : Int) := by
  unfold bitN
  rw [Int.natCast_mul, Int.natCast_emod, Int.natCast_ediv]
  rfl
theorem tb_nice {tb : Tb} (g : tb.Good) (hf : tb.steps.length ≤ 5) : Nice tb.d := by
  have hm := g.many
  refine Bnd.nice (k := 3) (b := 993) (Bnd.tuple (k := 2) (b := 330) (n := 3) (fun d hd => ?_) (Nat.le_refl _) (by decide)) (by decide) (by decide)
  simp only [List.mem_cons, List.not_mem_nil, or_false] at hd
  rcases hd with rfl | rfl | rfl
  · exact .int (by omega)
  · refine Bnd.list (k := 1) (b := 64) (n := 5) (fun d hd => ?_) (by rw [List.length_map]; exact hf) (by decide)
    obtain ⟨r, hr, rfl⟩ := List.mem_map.mp hd
    exact line_bnd g hf hr
  · refine (Bnd.list (k := 0) (b := 0) (n := 5) (c := 5) (fun d hd => ?_) (by rw [List.length_map, g.same]; exact hf) (by decide)).up (by decide) (by decide)
    obtain ⟨r, hr, rfl⟩ := List.mem_map.mp hd
    exact .bl r
theorem nats_nice {l : List Nat} (h : ∀ x ∈ l, x < 2 ^ 64) (hl : l.length ≤ 1000) : Nice (.list (natD l)) := by
  have e : (2 : Nat) ^ 64 < 10 ^ 38 := by decide
  exact (Bnd.nats (n := 1000) (c := 1000) (fun x hx => by have := h x hx; omega) hl (Nat.le_refl _)).nice (by decide) (by decide)
theorem pel_shows {d : PyData} (h : PEl d) : Shows d ∧ (isTuple d = true → Nice d) := by
  rcases h with h | rfl
  · have n := h.nice (by decide) (by decide)
    exact ⟨n.shows, fun _ => n⟩
  · exact ⟨shows_empty, fun z => nomatch z⟩
theorem bl_shows (b : Bool) : Shows (.bool b) := ((Bnd.bl (k := 0) (b := 0) b).nice (by decide) (by decide)).shows
theorem int_shows {i : Int} (h : i.natAbs < 10 ^ 38) : Shows (.int i) := (Nice.int h).shows
theorem shaped_nats {l : List Nat} : SeqAt.shaped (.list (natD l)) = true := by
  have h1 : ∀ l : List Nat, PyData.canLayAll0 (natD l) = true := by
    intro l
    induction l with
    | nil => rfl
    | cons x r ih => show (true && PyData.canLayAll0 (natD r)) = true; rw [ih]; rfl
  have h2 : ∀ l : List Nat, PyData.depthAll (natD l) = 0 := by
    intro l
    induction l with
    | nil => simp only [List.map_nil, PyData.depthAll]
    | cons x r ih =>
      show PyData.depthAll (PyData.int (x : Int) :: natD r) = 0
      simp only [PyData.depthAll, PyData.depth, ih]
      decide
  have h3 : PyData.canLay0 (.list (natD l)) = true := by simp only [PyData.canLay0]; exact h1 l
  have h4 : PyData.depth (.list (natD l)) ≤ 64 := by simp only [PyData.depth, h2]; omega
  show (PyData.canLay0 _ && decide (PyData.depth _ ≤ 64)) = true
  rw [h3, decide_eq_true h4]
  rfl
theorem ne_self {d : PyData} {A B : Prop} (h : Nice d) (b : B) : if (!PyData.eqv d d) = true then A else B := by
  rw [h.refl]
  exact iteF b
section
variable {P : Program} {w : World} {K : PySem.W.Frag} {mg : Str → Option Value} {base : Heap}
def spRight : Sp := fun vs H Q _ => ∃ (a : Addr) (t m : Int), vs = [.ref a] ∧ Gn a t m H ∧ m ≤ 10000 ∧ ∀ H' : Hp, SameX a H H' → Q (.bl true) H'
theorem ok_law_right (T : Tx K mg) : FnG P w K mg base CX0 8 T.a_law_right T.d_law_right ["_law_generator_here"] spRight := by
  have G_law_random := ok_rnd (P := P) (w := w) (base := base) T
  have G_law_two := ok_law_two (P := P) (w := w) (base := base) T
  have G_law_table := ok_law_table (P := P) (w := w) (base := base) T
  have G_law_behind := ok_law_behind (P := P) (w := w) (base := base) T
  have G_law_takes := ok_law_takes (P := P) (w := w) (base := base) T
  have G_law_is_table := ok_law_is_table (P := P) (w := w) (base := base) T
  have G_law_bent := ok_law_bent (P := P) (w := w) (base := base) T
  have G_stand_behind := ok_stand_behind (P := P) (w := w) (base := base) T
  have G_takes := ok_takes (P := P) (w := w) (base := base) T
  have G_words_of := ok_words_of (P := P) (w := w) (base := base) T
  have G_row_of := ok_row_of (P := P) (w := w) (base := base) T
  have G_is_table := ok_is_table (P := P) (w := w) (base := base) T
  refine bodyG0 T.F_law_right sc_law_right (fun vs H Q E h => ?_) (fun cdv A outer s H vs Q E gd hr h => ?_)
  · obtain ⟨a, t, m, rfl, _⟩ := h; rfl
  · obtain ⟨a, t, m, rfl, g0, hm, q⟩ := h
    refine ⟨_, (pss_cons (ps_set (i := 1) sc_law_right.nd rfl (Or.inr rfl) (pe_g G_law_random gd (hr.mono (by decide)) (by rfl) T.g_law_random T.F_law_random.kp T.b_law_random .nil pass0 (pa_cons (pv 0) (pa_cons pe_int pa_nil))))
      (pss_cons (ps_set (i := 2) sc_law_right.nd rfl (Or.inl rfl) (pe_g G_law_table gd (hr.mono (by decide)) (by rfl) T.g_law_table T.F_law_table.kp T.b_law_table .nil pass0 (pa_cons (pv 0) (pa_cons (pv 1) (pa_cons pe_int pa_nil)))))
      (pss_cons (ps_set (i := 3) sc_law_right.nd rfl (Or.inl rfl) (pe_callB (call_reprT gd hr.units) (by rfl) T.z_repr (by decide +kernel) (pa_cons (pv 2) pa_nil)))
      (pss_cons (ps_for PassesOwn.never rfl (pi_range1 (by rfl) T.z_range (pa_cons pe_int pa_nil)) (pg_name (i := 4) sc_law_right.nd rfl (Or.inl rfl)) (pss_cons (ps_set (i := 5) sc_law_right.nd rfl (Or.inr rfl) (pe_lc (own := [("_law_letter", 13)]) (g := gName 13) (tt := tYes) rfl sc_law_right.nd (pi_range1 (by rfl) T.z_range (pa_cons (pe_g G_law_random gd (hr.mono (by decide)) (by rfl) T.g_law_random T.F_law_random.kp T.b_law_random .nil pass0 (pa_cons (pv 0) (pa_cons pe_int pa_nil))) pa_nil)) (blkOk_by (N := ["_law_generator_here", "_law_many", "_law_known", "_law_kept_here", "_law_turn", "_law_row_there", "_law_given", "_law_words_there", "_law_size", "_law_due", "_law_told", "_law_value_there", "_law_place", "_law_letter", "_law_at", "_law_word"]) (sc := defScope s_law_right) (by decide +kernel)) (fun _ _ _ _ _ => (pg_name (i := 13) sc_law_right.nd rfl (Or.inl rfl))) (fun _ _ _ _ _ => pts_nil) (fun _ _ _ _ _ => (pe_g G_law_random gd (hr.mono (by decide)) (by rfl) T.g_law_random T.F_law_random.kp T.b_law_random .nil pass0 (pa_cons (pv 0) (pa_cons (pe_g G_law_two gd (hr.mono (by decide)) (by rfl) T.g_law_two T.F_law_two.kp T.b_law_two .nil pass0 (pa_cons (pv 1) pa_nil)) pa_nil))))))
      (pss_cons (ps_set (i := 6) sc_law_right.nd rfl (Or.inl rfl) (pe_callTy (call_listK (K := K) rfl) (by rfl) T.z_list (by decide +kernel) (pa_cons (pv 5) pa_nil)))
      (pss_cons (ps_if (PW.pt (pw_or (pt_cmpR op_ne (pe_callB (call_reprT gd hr.units) (by rfl) T.z_repr (by decide +kernel) (pa_cons (pe_g G_stand_behind gd (hr.mono (by decide)) (by rfl) T.g_stand_behind T.F_stand_behind.kp T.b_stand_behind .nil pass0 (pa_cons (pv 2) (pa_cons (pv 6) pa_nil))) pa_nil)) (pe_callB (call_reprT gd hr.units) (by rfl) T.z_repr (by decide +kernel) (pa_cons (pe_g G_law_behind gd (hr.mono (by decide)) (by rfl) T.g_law_behind T.F_law_behind.kp T.b_law_behind .nil pass0 (pa_cons (pv 2) (pa_cons (pv 5) pa_nil))) pa_nil)) (nomark _)) (pw_or1 (pt_cmpR op_ne (pe_callB (call_reprT gd hr.units) (by rfl) T.z_repr (by decide +kernel) (pa_cons (pe_g G_takes gd (hr.mono (by decide)) (by rfl) T.g_takes T.F_takes.kp T.b_takes .nil pass0 (pa_cons (pv 2) (pa_cons (pv 6) pa_nil))) pa_nil)) (pe_callB (call_reprT gd hr.units) (by rfl) T.z_repr (by decide +kernel) (pa_cons (pe_g G_law_takes gd (hr.mono (by decide)) (by rfl) T.g_law_takes T.F_law_takes.kp T.b_law_takes .nil pass0 (pa_cons (pv 2) (pa_cons (pv 5) pa_nil))) pa_nil)) (nomark _))))) (pss_one (ps_ret pe_bl)) pss_nil)
      (pss_cons (ps_set (i := 7) sc_law_right.nd rfl (Or.inr rfl) (pe_lc (own := [("_law_at", 14)]) (g := gName 14) (tt := tYes) rfl sc_law_right.nd (pi_range1 (by rfl) T.z_range (pa_cons (pv 1) pa_nil)) (blkOk_by (N := ["_law_generator_here", "_law_many", "_law_known", "_law_kept_here", "_law_turn", "_law_row_there", "_law_given", "_law_words_there", "_law_size", "_law_due", "_law_told", "_law_value_there", "_law_place", "_law_letter", "_law_at", "_law_word"]) (sc := defScope s_law_right) (by decide +kernel)) (fun _ _ _ _ _ => (pg_name (i := 14) sc_law_right.nd rfl (Or.inr rfl))) (fun _ _ _ _ _ => pts_nil) (fun _ _ _ _ _ => (pe_callB (cr_sumK (K := K) rfl rfl) (by rfl) T.z_sum (by decide +kernel) (pa_cons (pe_lc (own := [("_law_place", 12), ("_law_letter", 13)]) (g := gTup K 2 (gCons (gName 12) (gCons (gName 13) gNil))) (tt := tYes) rfl sc_law_right.nd (pi_enumK (K := K) rfl (by rfl) T.z_enumerate (pa_cons (pv 5) pa_nil)) (blkOk_by (by kernel_rfl)) (fun _ _ _ _ _ => (pg_tup (by rfl) (pgs_cons (pg_name (i := 12) sc_law_right.nd rfl (Or.inl rfl)) (pgs_cons (pg_name (i := 13) sc_law_right.nd rfl (Or.inl rfl)) pgs_nil)))) (fun _ _ _ _ _ => pts_nil) (fun _ _ _ _ _ => (pe_op op_mulX (pe_op op_mod (pe_callTy call_int1 (by rfl) T.z_int (by decide +kernel) (pa_cons (pe_op op_fdivW (pv 13) (pe_g G_law_two gd (hr.mono (by decide)) (by rfl) T.g_law_two T.F_law_two.kp T.b_law_two .nil pass0 (pa_cons (pv 14) pa_nil))) pa_nil)) pe_int) (pe_g G_law_two gd (hr.mono (by decide)) (by rfl) T.g_law_two T.F_law_two.kp T.b_law_two .nil pass0 (pa_cons (pv 12) pa_nil))))) pa_nil)))))
      (pss_one (ps_if (PW.pt (pw_or (pt_cmpR op_ne (pe_callB (call_reprT gd hr.units) (by rfl) T.z_repr (by decide +kernel) (pa_cons (pe_g G_words_of gd (hr.mono (by decide)) (by rfl) T.g_words_of T.F_words_of.kp T.b_words_of .nil pass0 (pa_cons (pv 1) (pa_cons (pv 6) pa_nil))) pa_nil)) (pe_callB (call_reprT gd hr.units) (by rfl) T.z_repr (by decide +kernel) (pa_cons (pv 7) pa_nil)) (nomark _)) (pw_or (pt_cmpR op_ne (pe_callB (call_reprT gd hr.units) (by rfl) T.z_repr (by decide +kernel) (pa_cons (pe_g G_row_of gd (hr.mono (by decide)) (by rfl) T.g_row_of T.F_row_of.kp T.b_row_of .nil pass0 (pa_cons (pe_callB (call_lenK (K := K) rfl) (by rfl) T.z_len (by decide +kernel) (pa_cons (pv 5) pa_nil)) (pa_cons (pv 7) pa_nil))) pa_nil)) (pe_callB (call_reprT gd hr.units) (by rfl) T.z_repr (by decide +kernel) (pa_cons (pv 5) pa_nil)) (nomark _)) (pw_or1 (pt_cmpR (op_neT hr.units) (pv 6) (pv 5) (nomark _)))))) (pss_one (ps_ret pe_bl)) pss_nil)))))))
      (pss_cons (ps_set (i := 8) sc_law_right.nd rfl (Or.inr rfl) (pe_ix (ix_listK (K := K) rfl) (pe_lst (pa_cons (pe_g G_law_random gd (hr.mono (by decide)) (by rfl) T.g_law_random T.F_law_random.kp T.b_law_random .nil pass0 (pa_cons (pv 0) (pa_cons pe_int pa_nil))) (pa_cons pe_int (pa_cons (pe_g G_law_random gd (hr.mono (by decide)) (by rfl) T.g_law_random T.F_law_random.kp T.b_law_random .nil pass0 (pa_cons (pv 0) (pa_cons pe_int pa_nil))) pa_nil)))) (pe_g G_law_random gd (hr.mono (by decide)) (by rfl) T.g_law_random T.F_law_random.kp T.b_law_random .nil pass0 (pa_cons (pv 0) (pa_cons pe_int pa_nil))) (fun _ _ => rfl)))
      (pss_cons (ps_set (i := 7) sc_law_right.nd rfl (Or.inr rfl) (pe_lc (own := [("_law_turn", 4)]) (g := gName 4) (tt := tYes) rfl sc_law_right.nd (pi_range1 (by rfl) T.z_range (pa_cons (pe_g G_law_random gd (hr.mono (by decide)) (by rfl) T.g_law_random T.F_law_random.kp T.b_law_random .nil pass0 (pa_cons (pv 0) (pa_cons pe_int pa_nil))) pa_nil)) (blkOk_by (N := ["_law_generator_here", "_law_many", "_law_known", "_law_kept_here", "_law_turn", "_law_row_there", "_law_given", "_law_words_there", "_law_size", "_law_due", "_law_told", "_law_value_there", "_law_place", "_law_letter", "_law_at", "_law_word"]) (sc := defScope s_law_right) (by decide +kernel)) (fun _ _ _ _ _ => (pg_name (i := 4) sc_law_right.nd rfl (Or.inl rfl))) (fun _ _ _ _ _ => pts_nil) (fun _ _ _ _ _ => (pe_g G_law_random gd (hr.mono (by decide)) (by rfl) T.g_law_random T.F_law_random.kp T.b_law_random .nil pass0 (pa_cons (pv 0) (pa_cons (pe_g G_law_two gd (hr.mono (by decide)) (by rfl) T.g_law_two T.F_law_two.kp T.b_law_two .nil pass0 (pa_cons (pv 8) pa_nil)) pa_nil))))))
      (pss_cons (ps_set (i := 6) sc_law_right.nd rfl (Or.inl rfl) (pe_callTy (call_listK (K := K) rfl) (by rfl) T.z_list (by decide +kernel) (pa_cons (pv 7) pa_nil)))
      (pss_cons (ps_setLc (i := 9) (own := [("_law_place", 12)]) (g := gName 12) (tt := tYes) rfl sc_law_right.nd rfl rfl (sw_true rfl rfl rfl (by decide +kernel)) (pi_range1 (by rfl) T.z_range (pa_cons (pv 8) pa_nil)) (blkOk_by (N := ["_law_generator_here", "_law_many", "_law_known", "_law_kept_here", "_law_turn", "_law_row_there", "_law_given", "_law_words_there", "_law_size", "_law_due", "_law_told", "_law_value_there", "_law_place", "_law_letter", "_law_at", "_law_word"]) (sc := defScope s_law_right) (by decide +kernel)) (fun _ _ _ _ _ => (pg_name (i := 12) sc_law_right.nd rfl (Or.inr rfl))) (fun _ _ _ _ _ => pts_nil) (fun _ _ _ _ _ => (pe_callB (cr_sumK (K := K) rfl rfl) (by rfl) T.z_sum (by decide +kernel) (pa_cons (pe_lc (own := [("_law_at", 14), ("_law_word", 15)]) (g := gTup K 2 (gCons (gName 14) (gCons (gName 15) gNil))) (tt := tYes) rfl sc_law_right.nd (pi_enumK (K := K) rfl (by rfl) T.z_enumerate (pa_cons (pv 7) pa_nil)) (blkOk_by (by kernel_rfl)) (fun _ _ _ _ _ => (pg_tup (by rfl) (pgs_cons (pg_name (i := 14) sc_law_right.nd rfl (Or.inl rfl)) (pgs_cons (pg_name (i := 15) sc_law_right.nd rfl (Or.inl rfl)) pgs_nil)))) (fun _ _ _ _ _ => pts_nil) (fun _ _ _ _ _ => (pe_op op_mulX (pe_op op_mod (pe_callTy call_int1 (by rfl) T.z_int (by decide +kernel) (pa_cons (pe_op op_fdivW (pv 15) (pe_g G_law_two gd (hr.mono (by decide)) (by rfl) T.g_law_two T.F_law_two.kp T.b_law_two .nil pass0 (pa_cons (pv 12) pa_nil))) pa_nil)) pe_int) (pe_g G_law_two gd (hr.mono (by decide)) (by rfl) T.g_law_two T.F_law_two.kp T.b_law_two .nil pass0 (pa_cons (pv 14) pa_nil))))) pa_nil))))
      (pss_cons (ps_set (i := 10) sc_law_right.nd rfl (Or.inl rfl) (pe_g G_row_of gd (hr.mono (by decide)) (by rfl) T.g_row_of T.F_row_of.kp T.b_row_of .nil pass0 (pa_cons (pv 8) (pa_cons (pv 6) pa_nil))))
      (pss_cons (ps_if (PW.pt (pw_or (pt_cmpR op_ne (pe_callB (call_reprT gd hr.units) (by rfl) T.z_repr (by decide +kernel) (pa_cons (pv 10) pa_nil)) (pe_callB (call_reprT gd hr.units) (by rfl) T.z_repr (by decide +kernel) (pa_cons (pv 9) pa_nil)) (nomark _)) (pw_or (pt_cmpR (op_neT hr.units) (pv 6) (pv 7) (nomark _)) (pw_or1 (pt_cmpR op_ne (pe_callB (call_reprT gd hr.units) (by rfl) T.z_repr (by decide +kernel) (pa_cons (pe_g G_words_of gd (hr.mono (by decide)) (by rfl) T.g_words_of T.F_words_of.kp T.b_words_of .nil pass0 (pa_cons (pe_callB (call_lenK (K := K) rfl) (by rfl) T.z_len (by decide +kernel) (pa_cons (pv 6) pa_nil)) (pa_cons (pv 10) pa_nil))) pa_nil)) (pe_callB (call_reprT gd hr.units) (by rfl) T.z_repr (by decide +kernel) (pa_cons (pv 7) pa_nil)) (nomark _)))))) (pss_one (ps_ret pe_bl)) pss_nil)
      (pss_cons (ps_for PassesOwn.never rfl (pi_list (pe_op op_cat (pe_lst (pa_cons (pv 2) pa_nil)) (pe_g G_law_bent gd (hr.mono (by decide)) (by rfl) T.g_law_bent T.F_law_bent.kp T.b_law_bent .nil pass0 (pa_cons (pv 0) (pa_cons (pv 2) pa_nil))))) (pg_name (i := 11) sc_law_right.nd rfl (Or.inl rfl)) (pss_cons (ps_par (i := 9) (j := 6) rfl sc_law_right.nd rfl rfl (by decide) rfl rfl (pa_cons (pe_g G_law_is_table gd (hr.mono (by decide)) (by rfl) T.g_law_is_table T.F_law_is_table.kp T.b_law_is_table .nil pass0 (pa_cons (pv 11) pa_nil)) (pa_cons (pe_callB (call_reprT gd hr.units) (by rfl) T.z_repr (by decide +kernel) (pa_cons (pv 11) pa_nil)) pa_nil)) (by rfl))
      (pss_one (ps_if (PW.pt (pw_or (pt_cmpR op_ne (pe_callB (call_reprT gd hr.units) (by rfl) T.z_repr (by decide +kernel) (pa_cons (pe_g G_is_table gd (hr.mono (by decide)) (by rfl) T.g_is_table T.F_is_table.kp T.b_is_table .nil pass0 (pa_cons (pv 11) pa_nil)) pa_nil)) (pe_callB (call_reprT gd hr.units) (by rfl) T.z_repr (by decide +kernel) (pa_cons (pv 9) pa_nil)) (nomark _)) (pw_or1 (pt_cmpR op_ne (pe_callB (call_reprT gd hr.units) (by rfl) T.z_repr (by decide +kernel) (pa_cons (pv 11) pa_nil)) (pv 6) (nomark _))))) (pss_one (ps_ret pe_bl)) pss_nil))))
      (pss_one (ps_ret (pe_cmpR op_eq (pe_callB (call_reprT gd hr.units) (by rfl) T.z_repr (by decide +kernel) (pa_cons (pv 2) pa_nil)) (pv 3) (nomark _))))))))))))))), ?_⟩
    have big : ∀ {b : Nat}, b ≤ 2 ^ 64 → b < 2 ^ 2000 := fun {b} hb => by
      have : (2 : Nat) ^ 64 < 2 ^ 2000 := by decide +kernel
      omega
    have sm : ∀ {b : Nat}, b ≤ 1000 → b < 2 ^ 2000 := fun {b} hb => big (by omega)
    refine ⟨_, rfl, a, 4, t, m, rfl, g0, by omega, by decide, sm (by decide), fun n H1 hn x1 g1 => ?_⟩
    refine ⟨_, rfl, _, rfl, a, t, m + 100, n, 5, rfl, g1, by omega, by omega, by decide, by decide, fun kx tb H2 x2 g2 dt2 good hmany few => ?_⟩
    have nt := tb_nice good few
    refine ⟨_, rfl, kx, tb.d, rfl, dt2.on, nt.shows, ?_⟩
    have n8 : 2 ^ n ≤ 8 := Nat.le_trans (Nat.pow_le_pow_right (by decide) (show n ≤ 3 by omega)) (by decide)
    refine ⟨4, rfl, by decide, by decide, ?_⟩
    refine for_range (n := 4) (fun i σ H' => SameX a H H' ∧ Gn a t (m + 11000 + 2000 * i) H' ∧ Dt (off a H') kx tb.d ∧ ∃ z4 z5 z6 z7 : Option V, σ = [some (.ref a), some (.int (n : Int)), some kx, some (.str tb.d.shown), z4, z5, z6, z7, none, none, none, none, none, none, none, none])
      ⟨x1.trans x2, g2.up (by omega), dt2, none, none, none, none, rfl⟩ ?_ ?_
    · rintro i σ H3 hi ⟨x3, g3, dt3, z4, z5, z6, z7, rfl⟩
      refine ⟨_, rfl, a, 7, t, _, rfl, g3, by omega, by decide, sm (by decide), fun ln H4 hln x4 g4 => ?_⟩
      refine ⟨ln, rfl, by omega, by omega, fun D hD => ?_⟩
      have nDa := g4.ne hD
      refine lc_range (lo := 0) (n := ln) (fun j H' => SameX a H4 H' ∧ Gn a t (m + 11000 + 2000 * i + 100 + 100 * j) H' ∧ ∃ l : List Nat, H' D = some (.lst (natV l)) ∧ l.length = j ∧ ∀ x ∈ l, x < 2 ^ n)
        ⟨SameX.of (same_new' hD), (g4.same (same_new' hD)).up (by omega), [], upd_same, rfl, (fun x hx => nomatch hx)⟩ ?_ ?_
      · rintro j H5 hj ⟨x5, g5, l, e5, le5, hl5⟩
        refine ⟨rfl, yes_if ?_⟩
        refine ⟨_, rfl, _, rfl, n, rfl, by omega, a, 2 ^ n, t, _, rfl, g5, by omega, Nat.two_pow_pos n, sm (by omega), fun r2 H6 hr2 x6 g6 => ?_⟩
        refine ⟨natV l, x6 _ _ nDa e5, by rw [List.length_map]; exact small1000 (by omega), SameX.new (x5.trans x6) hD, (g6.keep nDa).up (by omega), l ++ [r2], ?_, by rw [List.length_append, le5]; rfl, fun x hx => ?_⟩
        · rw [upd_same]
          show _ = some (HO.lst ((l ++ [r2]).map _))
          rw [List.map_append]
          rfl
        · rcases List.mem_append.mp hx with h | h
          · exact hl5 x h
          · rw [List.mem_singleton.mp h]; exact hr2
      rintro H5 ⟨x5, g5, l, eD5, hll, hl⟩
      have l6 : l.length ≤ 6 := by omega
      refine ⟨_, rfl, D, natV l, rfl, .inl (.inl (.inl eD5)), fun G hG => ?_⟩
      have sG : Same H5 (upd H5 G (.lst (natV l))) := same_new' hG
      have x6 := ((x3.trans x4).trans x5).trans (SameX.of sG)
      have dt6 : Dt (off a (upd H5 G (.lst (natV l)))) kx tb.d := dt3.to ((x4.trans x5).trans (SameX.of sG)).off
      have g6 := g5.same sG
      have eD : (upd H5 G (.lst (natV l))) D = some (.lst (natV l)) := sG _ _ eD5
      have eG : (upd H5 G (.lst (natV l))) G = some (.lst (natV l)) := upd_same
      generalize (upd H5 G (.lst (natV l))) = H6 at x6 dt6 g6 eD eG
      have hl' : ∀ c ∈ l, c < 2 ^ tb.many := by rw [hmany]; exact hl
      have bs : tb.behind l < tb.steps.length := good.behind l 0 good.some hl'
      have is1 : Shows (.int (tb.behind l : Nat)) := int_shows (by omega)
      refine ⟨_, rfl, _, rfl, kx, tb, G, l, rfl, dt6.on, good, nt, eG, hl', by omega, fun H7 s7 => ?_⟩
      refine ⟨_, _, rfl, .int _, is1, _, rfl, _, rfl, kx, tb, D, l, rfl, dt6.on.to s7, good, s7 _ _ eD, hl', _, _, rfl, .int _, is1, rfl, _, rfl, iteNS rfl ?_⟩
      refine ⟨_, rfl, _, rfl, kx, tb, G, l, rfl, dt6.on.to s7, good, nt, s7 _ _ eG, hl', by omega, fun H8 s8 => ?_⟩
      refine ⟨_, _, rfl, .bl _, bl_shows _, _, rfl, _, rfl, kx, tb, D, l, rfl, dt6.on.to (s7.trans s8), good, s8 _ _ (s7 _ _ eD), hl', _, _, rfl, .bl _, bl_shows _, rfl, _, rfl, iteNS rfl ?_⟩
      have s8 := s7.trans s8
      have eD := s8 _ _ eD
      have eG := s8 _ _ eG
      have x8 := x6.trans (SameX.of s8)
      have g8 := g6.same s8
      have dt8 := dt6.to (SameX.of s8).off
      clear s7 s8
      refine ⟨_, rfl, n, rfl, by omega, by omega, fun D2 hD2 => ?_⟩
      refine lc_range (lo := 0) (n := n) (fun p H' => Same H8 H' ∧ H' D2 = some (.lst (natV (tr p l)))) ⟨same_new' hD2, upd_same⟩ ?_ ?_
      · rintro p H' hp ⟨s1, e1⟩
        have sq1 : SqL K H' D (natV l) := .inl (.inl (s1 _ _ eD))
        refine ⟨rfl, yes_if ?_⟩
        refine ⟨_, rfl, D, _, rfl, sq1, fun D3 hD3 => ?_⟩
        refine lc_it walk_enum (fun i Hi => Same H' Hi ∧ ∃ l2 : List Int, Hi D3 = some (.lst (l2.map V.int)) ∧ l2.length = i ∧ l2.sum = (col (l.take i) p : Nat)) ⟨same_new' hD3, [], upd_same, rfl, rfl⟩ (fun i Hi _ e => e.1.seq sq1) ?_ ?_
        · rintro i x H2 H3 hi ⟨s2, l2, e2, len2, sum2⟩ ⟨T', x1, x2, rfl, hT, rfl, f1, f2⟩
          cases f1
          have f2 : (natV l)[i]? = some x2 := f2
          obtain ⟨b, hb, rfl⟩ := nat_get f2
          have il : i < l.length := (List.getElem?_eq_some_iff.mp hb).1
          refine ⟨T', [.int i, .int b], rfl, .inl (.inl upd_same), rfl, _, _, rfl, _, _, rfl, rfl, ?_⟩
          have nD : D3 ≠ T' := ne_of_none e2 hT
          have pp : 2 ^ p < 2 ^ 65 := Nat.pow_lt_pow_right (by decide) (by omega)
          have pi : 2 ^ i < 2 ^ 65 := Nat.pow_lt_pow_right (by decide) (by omega)
          have p0 : 0 < 2 ^ p := Nat.two_pow_pos p
          refine ⟨rfl, yes_if ?_⟩
          refine ⟨_, rfl, _, rfl, p, by rw [Int.zero_add]; rfl, by omega, _, _, rfl, rfl, (by exact wide_div (b := 65) (by omega) (by omega) (by decide) (by decide)), .inl ⟨_, rfl, ?_⟩⟩
          refine ⟨_, _, rfl, rfl, (by decide : (0 : Int) < 2), _, rfl, i, rfl, by omega, _, _, rfl, rfl, (by exact mulx_ok (a := 1) (b := 65) (by omega) (by rw [Int.natAbs_natCast]; exact pi) (by decide)), ?_⟩
          refine ⟨l2.map V.int, by rw [upd_ne nD]; exact e2, by rw [List.length_map]; exact small1000 (by omega), ?_⟩
          refine ⟨fun c o ec => ?_, l2 ++ [_], ?_, by rw [List.length_append]; show l2.length + 1 = i + 1; omega, sum_step hb sum2 _ (col_bit b p i)⟩
          · rw [upd_ne (ne_of_none ec hD3)]
            exact (same_new' hT) c o (s2 c o ec)
          · rw [upd_same, List.map_append]
            rfl
        · rintro H2 ⟨s2, l2, e2, len2, sum2⟩
          rw [show (natV l).length = l.length from List.length_map .., List.take_length] at sum2
          refine ⟨D3, l2, rfl, .inl (.inl e2), ?_⟩
          rw [sum2]
          have e3 := s2 _ _ e1
          refine ⟨_, e3, by rw [List.length_map, tr_len]; exact small1000 (by omega), fun c o ec => ?_, ?_⟩
          · rw [upd_ne (ne_of_none ec hD2)]
            exact (s1.trans s2) c o ec
          · rw [upd_same]
            unfold tr natV
            rw [List.range_succ, List.map_append, List.map_append]
            rfl
      rintro H9 ⟨sH9, eD2⟩
      have eD := sH9 _ _ eD
      have eG := sH9 _ _ eG
      refine ⟨_, rfl, _, rfl, G, l, n, rfl, eG, by omega, hl, by omega, fun p H10 s10 hp e10 => ?_⟩
      have tn : ∀ x ∈ tr n l, x < 2 ^ 64 := fun x hx => Nat.lt_of_lt_of_le (tr_lt x hx) (Nat.pow_le_pow_right (by decide) (by omega))
      have nn := nats_nice tn (by rw [tr_len]; omega)
      have nl := nats_nice (l := l) (fun x hx => Nat.lt_of_lt_of_le (hl x hx) (by omega)) (by omega)
      refine ⟨_, _, rfl, Dt.nats e10, nn.shows, _, rfl, _, _, rfl, Dt.nats (s10 _ _ eD2), nn.shows, rfl, _, rfl, iteNS rfl ?_⟩
      have eD := s10 _ _ eD
      have eG := s10 _ _ eG
      refine ⟨_, rfl, D, natV l, rfl, .inl (.inl (.inl eD)), _, rfl, D2, tr n l, (natV l).length, rfl, s10 _ _ eD2, by rw [List.length_map]; omega, fun x hx => by rw [List.length_map]; exact tr_lt x hx, by rw [tr_len]; omega, fun p2 H11 s11 hp2 e11 => ?_⟩
      rw [List.length_map, tr_tr hl] at e11
      refine ⟨_, _, rfl, Dt.nats e11, nl.shows, _, rfl, _, _, rfl, Dt.nats (s11 _ _ eD), nl.shows, rfl, _, rfl, iteNS rfl ?_⟩
      refine ⟨_, rfl, _, rfl, _, _, Dt.nats (s11 _ _ eG), Dt.nats (s11 _ _ eD), shaped_nats, shaped_nats, _, rfl, ne_self nl ?_⟩
      have sF := sH9.trans (s10.trans s11)
      exact ⟨x8.trans (SameX.of sF), (g8.same sF).up (by omega), dt8.to (SameX.of sF).off, _, _, _, _, rfl⟩
    rintro σ H3 ⟨x3, g3, dt3, z4, z5, z6, z7, rfl⟩
    refine ⟨_, rfl, a, 9, t, _, rfl, g3, by omega, by decide, sm (by decide), fun r1 H4 hr1 x4 g4 => ?_⟩
    refine ⟨_, rfl, a, 65, t, _, rfl, g4, by omega, by decide, sm (by decide), fun r2 H5 hr2 x5 g5 => ?_⟩
    refine ⟨by show 3 ≤ sizeLine; rw [sizeLine_eq]; decide, fun p hp => ?_⟩
    have np := g5.ne hp
    have s5 : Same H5 (upd H5 p (.lst [V.int (r1 : Int), .int 64, .int (r2 : Int)])) := same_new' hp
    refine ⟨_, rfl, a, 3, t, _, rfl, g5.same s5, by omega, by decide, sm (by decide), fun r3 H6 hr3 x6 g6 => ?_⟩
    have ep := x6 _ _ np (show (upd H5 p (.lst [V.int (r1 : Int), .int 64, .int (r2 : Int)])) p = some _ from upd_same)
    obtain ⟨z, hz, hat⟩ : ∃ z : Nat, z ≤ 64 ∧ [V.int (r1 : Int), .int 64, .int (r2 : Int)][r3]? = some (.int (z : Int)) := by
      match r3, hr3 with
      | 0, _ => exact ⟨r1, by omega, rfl⟩
      | 1, _ => exact ⟨64, by omega, rfl⟩
      | 2, _ => exact ⟨r2, by omega, rfl⟩
      | n + 3, h => omega
    refine ⟨p, _, r3, _, rfl, rfl, .inl (.inl ep), atI_nat hat, ?_⟩
    have x6 := (((x3.trans x4).trans x5).trans (SameX.of s5)).trans x6
    have dt6 : Dt (off a H6) kx tb.d := dt3.to (((x4.trans x5).trans (SameX.of s5)).trans ‹SameX a (upd H5 p _) H6›).off
    have g6 := g6.up (show _ ≤ m + 20000 by omega)
    clear ep hat x4 x5 s5 g5 g4 g3 dt3
    have z64 : 2 ^ z ≤ 2 ^ 64 := Nat.pow_le_pow_right (by decide) hz
    refine ⟨_, rfl, a, 7, t, _, rfl, g6, by omega, by decide, sm (by decide), fun ln H7 hln x7 g7 => ?_⟩
    refine ⟨ln, rfl, by omega, by omega, fun D hD => ?_⟩
    have nDa := g7.ne hD
    refine lc_range (lo := 0) (n := ln) (fun j H' => SameX a H7 H' ∧ Gn a t (m + 20000 + 100 + 100 * j) H' ∧ ∃ l : List Nat, H' D = some (.lst (natV l)) ∧ l.length = j ∧ ∀ x ∈ l, x < 2 ^ z)
      ⟨SameX.of (same_new' hD), (g7.same (same_new' hD)).up (by omega), [], upd_same, rfl, (fun x hx => nomatch hx)⟩ ?_ ?_
    · rintro j H5 hj ⟨x5, g5, l, e5, le5, hl5⟩
      refine ⟨rfl, yes_if ?_⟩
      refine ⟨_, rfl, _, rfl, z, rfl, by omega, a, 2 ^ z, t, _, rfl, g5, by omega, Nat.two_pow_pos z, big z64, fun r2 H6 hr2 x6 g6 => ?_⟩
      refine ⟨natV l, x6 _ _ nDa e5, by rw [List.length_map]; exact small1000 (by omega), SameX.new (x5.trans x6) hD, (g6.keep nDa).up (by omega), l ++ [r2], ?_, by rw [List.length_append, le5]; rfl, fun x hx => ?_⟩
      · rw [upd_same]
        show _ = some (HO.lst ((l ++ [r2]).map _))
        rw [List.map_append]
        rfl
      · rcases List.mem_append.mp hx with h | h
        · exact hl5 x h
        · rw [List.mem_singleton.mp h]; exact hr2
    rintro H5 ⟨x5, g5, l, eD5, hll, hl⟩
    have l6 : l.length ≤ 6 := by omega
    refine ⟨_, rfl, D, natV l, rfl, .inl (.inl (.inl eD5)), fun G hG => ?_⟩
    have sG : Same H5 (upd H5 G (.lst (natV l))) := same_new' hG
    have x8 := ((x6.trans x7).trans x5).trans (SameX.of sG)
    have dt8 : Dt (off a (upd H5 G (.lst (natV l)))) kx tb.d := dt6.to ((x7.trans x5).trans (SameX.of sG)).off
    have g8 := g5.same sG
    have eD : (upd H5 G (.lst (natV l))) D = some (.lst (natV l)) := sG _ _ eD5
    have eG : (upd H5 G (.lst (natV l))) G = some (.lst (natV l)) := upd_same
    generalize (upd H5 G (.lst (natV l))) = H8 at x8 dt8 g8 eD eG
    refine ⟨_, rfl, z, rfl, by omega, by omega, fun D2 hD2 => ?_⟩
    refine lc_range (lo := 0) (n := z) (fun p H' => Same H8 H' ∧ H' D2 = some (.lst (natV (tr p l)))) ⟨same_new' hD2, upd_same⟩ ?_ ?_
    · rintro p H' hp ⟨s1, e1⟩
      have sq1 : SqL K H' D (natV l) := .inl (.inl (s1 _ _ eD))
      refine ⟨rfl, yes_if ?_⟩
      refine ⟨_, rfl, D, _, rfl, sq1, fun D3 hD3 => ?_⟩
      refine lc_it walk_enum (fun i Hi => Same H' Hi ∧ ∃ l2 : List Int, Hi D3 = some (.lst (l2.map V.int)) ∧ l2.length = i ∧ l2.sum = (col (l.take i) p : Nat)) ⟨same_new' hD3, [], upd_same, rfl, rfl⟩ (fun i Hi _ e => e.1.seq sq1) ?_ ?_
      · rintro i x H2 H3 hi ⟨s2, l2, e2, len2, sum2⟩ ⟨T', x1, x2, rfl, hT, rfl, f1, f2⟩
        cases f1
        have f2 : (natV l)[i]? = some x2 := f2
        obtain ⟨b, hb, rfl⟩ := nat_get f2
        have il : i < l.length := (List.getElem?_eq_some_iff.mp hb).1
        refine ⟨T', [.int i, .int b], rfl, .inl (.inl upd_same), rfl, _, _, rfl, _, _, rfl, rfl, ?_⟩
        have nD : D3 ≠ T' := ne_of_none e2 hT
        have pp : 2 ^ p < 2 ^ 65 := Nat.pow_lt_pow_right (by decide) (by omega)
        have pi : 2 ^ i < 2 ^ 65 := Nat.pow_lt_pow_right (by decide) (by omega)
        have p0 : 0 < 2 ^ p := Nat.two_pow_pos p
        refine ⟨rfl, yes_if ?_⟩
        refine ⟨_, rfl, _, rfl, p, by rw [Int.zero_add]; rfl, by omega, _, _, rfl, rfl, (by exact wide_div (b := 65) (by omega) (by omega) (by decide) (by decide)), .inl ⟨_, rfl, ?_⟩⟩
        refine ⟨_, _, rfl, rfl, (by decide : (0 : Int) < 2), _, rfl, i, rfl, by omega, _, _, rfl, rfl, (by exact mulx_ok (a := 1) (b := 65) (by omega) (by rw [Int.natAbs_natCast]; exact pi) (by decide)), ?_⟩
        refine ⟨l2.map V.int, by rw [upd_ne nD]; exact e2, by rw [List.length_map]; exact small1000 (by omega), ?_⟩
        refine ⟨fun c o ec => ?_, l2 ++ [_], ?_, by rw [List.length_append]; show l2.length + 1 = i + 1; omega, sum_step hb sum2 _ (col_bit b p i)⟩
        · rw [upd_ne (ne_of_none ec hD3)]
          exact (same_new' hT) c o (s2 c o ec)
        · rw [upd_same, List.map_append]
          rfl
      · rintro H2 ⟨s2, l2, e2, len2, sum2⟩
        rw [show (natV l).length = l.length from List.length_map .., List.take_length] at sum2
        refine ⟨D3, l2, rfl, .inl (.inl e2), ?_⟩
        rw [sum2]
        have e3 := s2 _ _ e1
        refine ⟨_, e3, by rw [List.length_map, tr_len]; exact small1000 (by omega), fun c o ec => ?_, ?_⟩
        · rw [upd_ne (ne_of_none ec hD2)]
          exact (s1.trans s2) c o ec
        · rw [upd_same]
          unfold tr natV
          rw [List.range_succ, List.map_append, List.map_append]
          rfl
    rintro H9 ⟨sH9, eD2⟩
    have eD := sH9 _ _ eD
    have eG := sH9 _ _ eG
    have tn : ∀ x ∈ tr z l, x < 2 ^ 64 := fun x hx => Nat.lt_of_lt_of_le (tr_lt x hx) (Nat.pow_le_pow_right (by decide) (by omega))
    have nn := nats_nice tn (by rw [tr_len]; omega)
    have nl := nats_nice (l := l) (fun x hx => Nat.lt_of_lt_of_le (hl x hx) z64) (by omega)
    refine ⟨_, rfl, _, rfl, G, l, z, rfl, eG, hz, hl, l6, fun p2 H10 s10 hp2 e10 => ?_⟩
    have eD := s10 _ _ eD
    have eG := s10 _ _ eG
    refine ⟨_, rfl, _, _, rfl, Dt.nats e10, nn.shows, _, rfl, _, _, rfl, Dt.nats (s10 _ _ eD2), nn.shows, rfl, _, rfl, iteNS rfl ?_⟩
    refine ⟨_, rfl, _, rfl, _, _, Dt.nats eG, Dt.nats eD, shaped_nats, shaped_nats, _, rfl, ne_self nl ?_⟩
    refine ⟨_, rfl, G, natV l, rfl, .inl (.inl (.inl eG)), _, rfl, p2, tr z l, (natV l).length, rfl, e10, by rw [List.length_map]; exact l6, fun x hx => by rw [List.length_map]; exact tr_lt x hx, by rw [tr_len]; omega, fun p3 H11 s11 hp3 e11 => ?_⟩
    rw [List.length_map, tr_tr hl] at e11
    refine ⟨_, _, rfl, Dt.nats e11, nl.shows, _, rfl, _, _, rfl, Dt.nats (s11 _ _ eD), nl.shows, rfl, _, rfl, iteNS rfl ?_⟩
    have sF := sH9.trans (s10.trans s11)
    have x12 := x8.trans (SameX.of sF)
    have g12 := g8.same sF
    have dt12 := dt8.to (SameX.of sF).off
    clear sF s11 s10 sH9 e11 e10 eD2
    -- the values
    refine ⟨_, rfl, by show 1 ≤ sizeLine; rw [sizeLine_eq]; decide, fun q1 hq1 => ?_⟩
    have nq1 := g12.ne hq1
    have s13 : Same H11 (upd H11 q1 (.lst [kx])) := same_new' hq1
    refine ⟨_, rfl, _, rfl, a, t, _, kx, tb, rfl, g12.same s13, by omega, dt12.to (SameX.of s13).off, good, few, fun y H14 x14 g14 hy => ?_⟩
    obtain ⟨q2, vs, ds, rfl, hq2, hds, hP, hn40⟩ := hy
    have eq1 := x14 _ _ nq1 (show (upd H11 q1 (.lst [kx])) q1 = some _ from upd_same)
    have lds := hds.len
    have x15 := (x12.trans (SameX.of s13)).trans x14
    have dt14 := dt12.to ((SameX.of s13).trans x14).off
    refine ⟨q1, q2, [kx], vs, rfl, rfl, eq1, (offs_at hq2).2, by rw [sizeLine_eq]; show 1 + vs.length ≤ _; omega, fun L hL => ?_⟩
    have s15 : Same H14 (upd H14 L (.lst ([kx] ++ vs))) := same_new' hL
    have dall : DtAll (upd H14 L (.lst ([kx] ++ vs))) ([kx] ++ vs) ([tb.d] ++ ds) := (DtAll.app (.one (dt14.to off_same)) (hds.to offs_same)).to s15
    have sL : (upd H14 L (.lst ([kx] ++ vs))) L = some (.lst ([kx] ++ vs)) := upd_same
    have x15 := x15.trans (SameX.of s15)
    have dt15 := (dt14.to off_same).to s15
    generalize (upd H14 L (.lst ([kx] ++ vs))) = H15 at dall sL x15 dt15
    refine ⟨L, rfl, ⟨_, .inl (.inl sL)⟩, ?_⟩
    refine for_list (K := K) (a := L) (xs := [kx] ++ vs) (fun i σ H' => Same H15 H' ∧ ∃ u6 u9 u11 : Option V, ∃ v4 v5 v7 v8 v10 v12 v13 v14 v15 : Option V, σ = [some (.ref a), some (.int (n : Int)), some kx, some (.str tb.d.shown), v4, v5, u6, v7, v8, u9, v10, u11, v12, v13, v14, v15])
      ⟨Same.refl _, _, _, _, _, _, _, _, _, _, _, _, _, rfl⟩ (fun i σ H' _ e => .inl (.inl (e.1 _ _ sL))) ?_ ?_
    · rintro i x σ H16 hi ⟨s16, u6, u9, u11, v4, v5, v7, v8, v10, v12, v13, v14, v15, rfl⟩
      obtain ⟨d, hdi, hx⟩ := dall.get i x hi
      have hx := hx.to s16
      obtain ⟨sh, nd⟩ : Shows d ∧ (isTuple d = true → Nice d) := by
        rcases List.mem_append.mp (List.mem_of_getElem? hdi) with h | h
        · rw [List.mem_singleton.mp h]
          exact ⟨nt.shows, fun _ => nt⟩
        · exact pel_shows (hP d h)
      refine ⟨_, rfl, x, d, rfl, hx, nd, fun H17 s17 => ?_⟩
      have hx := hx.to s17
      refine ⟨_, rfl, x, d, rfl, hx, sh, _, _, rfl, ?_⟩
      refine ⟨_, rfl, x, d, rfl, hx, nd, fun H18 s18 => ?_⟩
      have hx := hx.to s18
      refine ⟨_, _, rfl, .bl _, bl_shows _, _, rfl, _, _, rfl, .bl _, bl_shows _, rfl, _, rfl, iteNS rfl ?_⟩
      exact ⟨_, rfl, x, d, rfl, hx, sh, _, rfl, rfl, _, rfl, iteNS rfl ⟨s16.trans (s17.trans s18), _, _, _, _, _, _, _, _, _, _, _, _, rfl⟩⟩
    · rintro σ H16 ⟨s16, u6, u9, u11, v4, v5, v7, v8, v10, v12, v13, v14, v15, rfl⟩
      refine ⟨_, rfl, kx, tb.d, rfl, dt15.to s16, nt.shows, _, rfl, rfl, ?_⟩
      rw [decide_eq_true rfl]
      exact q H16 (x15.trans (SameX.of s16))
end

end K13

set_option Elab.async false
set_option linter.all false
set_option maxRecDepth 100000
set_option maxHeartbeats 4000000
namespace K13
open PySem PySem.Spec PyProof.Rows L2 Hw

section
variable {P : Program} {w : World} {K : PySem.W.Frag} {mg : Str → Option Value} {base : Heap}
def tbE : Tb := ⟨1, [[0, 1], [1, 0]], [true, false]⟩
def tbL : Tb := ⟨2, [[0, 0, 1, 0], [1, 0, 1, 1]], [false, true]⟩
theorem goodE : tbE.Good := ⟨by decide, by decide, by decide, by decide, by decide⟩
theorem goodL : tbL.Good := ⟨by decide, by decide, by decide, by decide, by decide⟩
theorem niceE : Nice tbE.d := tb_nice goodE (by decide)
theorem niceL : Nice tbL.d := tb_nice goodL (by decide)
def toldD : List PyData := [.list (natD (tr 3 [5, 2])), .list (natD (tr 2 [1, 2, 1])), .bool (Tb.takes tbL (tr 3 [2, 5])), .int (tbE.behind [1, 1, 1] : Nat), .list (natD (tr 0 [0, 0])), .list (natD (tr 3 [])), .list (natD (tr 2 []))]
theorem rep_mem {n x b : Nat} (h : x < b) : ∀ c ∈ List.replicate n x, c < b := fun c hc => by rw [List.eq_of_mem_replicate hc]; exact h
theorem rep2_mem {n : Nat} : ∀ c ∈ (List.replicate n [1, 0]).flatten, c < 2 ^ 1 := fun c hc => by
  obtain ⟨l, h1, h2⟩ := List.mem_flatten.mp hc
  rw [List.eq_of_mem_replicate h1] at h2
  simp only [List.mem_cons, List.not_mem_nil, or_false] at h2
  omega
def spLaw (K : PySem.W.Frag) : Sp := fun vs H Q _ => ∃ (a : Addr) (ns : List Int), vs = [.ref a] ∧ ns.length ≤ 63 ∧ SqL K H a (ns.map V.int) ∧ ∀ H' : Hp, Q (.bl true) H'
theorem ok_law (T : Tx K mg) : FnG P w K mg base CX0 9 T.a_law T.d_law ["_law_script"] (spLaw K) := by
  have G_law_generator := ok_law_generator (P := P) (w := w) (base := base) T
  have G_law_right := ok_law_right (P := P) (w := w) (base := base) T
  have G_law_two := ok_law_two (P := P) (w := w) (base := base) T
  have G_words_of := ok_words_of (P := P) (w := w) (base := base) T
  have G_row_of := ok_row_of (P := P) (w := w) (base := base) T
  have G_stand_behind := ok_stand_behind (P := P) (w := w) (base := base) T
  have G_takes := ok_takes (P := P) (w := w) (base := base) T
  refine bodyG0 T.F_law sc_law (fun vs H Q E h => ?_) (fun cdv A outer s H vs Q E gd hr h => ?_)
  · obtain ⟨a, ns, rfl, _⟩ := h; rfl
  · obtain ⟨a, ns, rfl, _, hS, q⟩ := h
    refine ⟨_, (pss_cons (ps_for PassesOwn.never rfl (pi_range1 (by rfl) T.z_range (pa_cons pe_int pa_nil)) (pg_name (i := 1) sc_law.nd rfl (Or.inl rfl)) (pss_one (ps_if (pt_not (pt_val (pe_g G_law_right gd (hr.mono (by decide)) (by rfl) T.g_law_right T.F_law_right.kp T.b_law_right .nil pass0 (pa_cons (pe_g G_law_generator gd (hr.mono (by decide)) (by rfl) T.g_law_generator T.F_law_generator.kp T.b_law_generator .nil pass0 (pa_cons (pv 0) (pa_cons (pv 1) pa_nil))) pa_nil)))) (pss_one (ps_ret pe_bl)) pss_nil)))
      (pss_cons (ps_par (i := 2) (j := 3) rfl sc_law.nd rfl rfl (by decide) rfl rfl (pa_cons (pe_tup (pa_cons pe_int (pa_cons (pe_lst (pa_cons (pe_lst (pa_cons pe_int (pa_cons pe_int pa_nil))) (pa_cons (pe_lst (pa_cons pe_int (pa_cons pe_int pa_nil))) pa_nil))) (pa_cons (pe_lst (pa_cons pe_bl (pa_cons pe_bl pa_nil))) pa_nil)))) (pa_cons (pe_tup (pa_cons pe_int (pa_cons (pe_lst (pa_cons (pe_lst (pa_cons pe_int (pa_cons pe_int (pa_cons pe_int (pa_cons pe_int pa_nil))))) (pa_cons (pe_lst (pa_cons pe_int (pa_cons pe_int (pa_cons pe_int (pa_cons pe_int pa_nil))))) pa_nil))) (pa_cons (pe_lst (pa_cons pe_bl (pa_cons pe_bl pa_nil))) pa_nil)))) pa_nil)) (by rfl))
      (pss_cons (ps_set (i := 4) sc_law.nd rfl (Or.inl rfl) (pe_lst (pa_cons (pe_g G_row_of gd (hr.mono (by decide)) (by rfl) T.g_row_of T.F_row_of.kp T.b_row_of .nil pass0 (pa_cons pe_int (pa_cons (pe_lst (pa_cons pe_int (pa_cons pe_int pa_nil))) pa_nil))) (pa_cons (pe_g G_words_of gd (hr.mono (by decide)) (by rfl) T.g_words_of T.F_words_of.kp T.b_words_of .nil pass0 (pa_cons pe_int (pa_cons (pe_lst (pa_cons pe_int (pa_cons pe_int (pa_cons pe_int pa_nil)))) pa_nil))) (pa_cons (pe_g G_takes gd (hr.mono (by decide)) (by rfl) T.g_takes T.F_takes.kp T.b_takes .nil pass0 (pa_cons (pv 3) (pa_cons (pe_g G_row_of gd (hr.mono (by decide)) (by rfl) T.g_row_of T.F_row_of.kp T.b_row_of .nil pass0 (pa_cons pe_int (pa_cons (pe_lst (pa_cons pe_int (pa_cons pe_int pa_nil))) pa_nil))) pa_nil))) (pa_cons (pe_g G_stand_behind gd (hr.mono (by decide)) (by rfl) T.g_stand_behind T.F_stand_behind.kp T.b_stand_behind .nil pass0 (pa_cons (pv 2) (pa_cons (pe_lst (pa_cons pe_int (pa_cons pe_int (pa_cons pe_int pa_nil)))) pa_nil))) (pa_cons (pe_g G_row_of gd (hr.mono (by decide)) (by rfl) T.g_row_of T.F_row_of.kp T.b_row_of .nil pass0 (pa_cons pe_int (pa_cons (pe_lst (pa_cons pe_int (pa_cons pe_int pa_nil))) pa_nil))) (pa_cons (pe_g G_words_of gd (hr.mono (by decide)) (by rfl) T.g_words_of T.F_words_of.kp T.b_words_of .nil pass0 (pa_cons pe_int (pa_cons (pe_lst pa_nil) pa_nil))) (pa_cons (pe_g G_row_of gd (hr.mono (by decide)) (by rfl) T.g_row_of T.F_row_of.kp T.b_row_of .nil pass0 (pa_cons pe_int (pa_cons (pe_lst pa_nil) pa_nil))) pa_nil)))))))))
      (pss_cons (ps_if (PW.pt (pw_or (pt_cmpR (op_neT hr.units) (pv 4) (pe_lst (pa_cons (pe_lst (pa_cons pe_int (pa_cons pe_int (pa_cons pe_int pa_nil)))) (pa_cons (pe_lst (pa_cons pe_int (pa_cons pe_int pa_nil))) (pa_cons pe_bl (pa_cons pe_int (pa_cons (pe_lst pa_nil) (pa_cons (pe_lst (pa_cons pe_int (pa_cons pe_int (pa_cons pe_int pa_nil)))) (pa_cons (pe_lst (pa_cons pe_int (pa_cons pe_int pa_nil))) pa_nil)))))))) (nomark _)) (pw_or (pt_cmpR op_ne (pe_g G_stand_behind gd (hr.mono (by decide)) (by rfl) T.g_stand_behind T.F_stand_behind.kp T.b_stand_behind .nil pass0 (pa_cons (pv 2) (pa_cons (pe_op op_rep (pe_lst (pa_cons pe_int pa_nil)) pe_int) pa_nil))) pe_int (nomark _)) (pw_or1 (pt_cmpR op_isnot_bl (pe_g G_takes gd (hr.mono (by decide)) (by rfl) T.g_takes T.F_takes.kp T.b_takes .nil pass0 (pa_cons (pv 2) (pa_cons (pe_op op_rep (pe_lst (pa_cons pe_int (pa_cons pe_int pa_nil))) pe_int) pa_nil))) pe_bl (nomark _)))))) (pss_one (ps_ret pe_bl)) pss_nil)
      (pss_one (ps_ret (pe_and (pe_cmpR (op_eqT hr.units) (pe_g G_words_of gd (hr.mono (by decide)) (by rfl) T.g_words_of T.F_words_of.kp T.b_words_of .nil pass0 (pa_cons pe_int (pa_cons (pe_op op_rep (pe_lst (pa_cons pe_int pa_nil)) pe_int) pa_nil))) (pe_lst (pa_cons (pe_op op_sub (pe_op op_mulX (pe_g G_law_two gd (hr.mono (by decide)) (by rfl) T.g_law_two T.F_law_two.kp T.b_law_two .nil pass0 (pa_cons pe_int pa_nil)) (pe_g G_law_two gd (hr.mono (by decide)) (by rfl) T.g_law_two T.F_law_two.kp T.b_law_two .nil pass0 (pa_cons pe_int pa_nil))) pe_int) pa_nil)) (nomark _)) (pe_one (pe_cmpR (op_eqT hr.units) (pe_g G_words_of gd (hr.mono (by decide)) (by rfl) T.g_words_of T.F_words_of.kp T.b_words_of .nil pass0 (pa_cons pe_int (pa_cons (pe_op op_rep (pe_lst (pa_cons pe_int pa_nil)) pe_int) pa_nil))) (pe_lst (pa_cons pe_int (pa_cons (pe_op op_sub (pe_op op_mulX (pe_g G_law_two gd (hr.mono (by decide)) (by rfl) T.g_law_two T.F_law_two.kp T.b_law_two .nil pass0 (pa_cons pe_int pa_nil)) (pe_g G_law_two gd (hr.mono (by decide)) (by rfl) T.g_law_two T.F_law_two.kp T.b_law_two .nil pass0 (pa_cons pe_int pa_nil))) pe_int) pa_nil))) (nomark _)))))))))), ?_⟩
    have sz1 : ∀ {n : Nat}, n ≤ 1000 → n ≤ sizeLine := fun {n} h => by rw [sizeLine_eq]; omega
    refine ⟨3, rfl, by decide, by decide, for_range (n := 3) (fun i σ H' => ∃ y : Option V, σ = [some (.ref a), y, none, none, none] ∧ SqL K H' a (ns.map V.int)) ⟨none, rfl, hS⟩ ?_ ?_⟩
    · rintro i σ H1 hi ⟨y, rfl, s1⟩
      refine ⟨_, rfl, _, rfl, a, ns, i, by rw [Int.zero_add]; rfl, by omega, s1, fun g H2 s t c e2 ng g2 go => ?_⟩
      refine ⟨g, t, _, rfl, ⟨s, c, g2, go⟩, by omega, fun H3 x3 => ⟨true, rfl, iteF ⟨_, rfl, (x3.same e2 ng).seq s1⟩⟩⟩
    · rintro σ H1 ⟨y, rfl, s1⟩
      dsimp only [gName]
      refine seqL (parL (((Eva.econs (Ev.etup (Eva.econs (Ev.eint 1) (Eva.econs (Ev.elst (Eva.econs (Ev.elst (Eva.econs (Ev.eint 0) (Eva.econs (Ev.eint 1) Eva.enil))) (Eva.econs (Ev.elst (Eva.econs (Ev.eint 1) (Eva.econs (Ev.eint 0) Eva.enil))) Eva.enil))) (Eva.econs (Ev.elst (Eva.econs (Ev.ebl true) (Eva.econs (Ev.ebl false) Eva.enil))) Eva.enil)))) (Eva.econs (Ev.etup (Eva.econs (Ev.eint 2) (Eva.econs (Ev.elst (Eva.econs (Ev.elst (Eva.econs (Ev.eint 0) (Eva.econs (Ev.eint 0) (Eva.econs (Ev.eint 1) (Eva.econs (Ev.eint 0) Eva.enil))))) (Eva.econs (Ev.elst (Eva.econs (Ev.eint 1) (Eva.econs (Ev.eint 0) (Eva.econs (Ev.eint 1) (Eva.econs (Ev.eint 1) Eva.enil))))) Eva.enil))) (Eva.econs (Ev.elst (Eva.econs (Ev.ebl false) (Eva.econs (Ev.ebl true) Eva.enil))) Eva.enil)))) Eva.enil)) : Eva _ (Eda [.tuple [.int 1, .list [.list [.int 0, .int 1], .list [.int 1, .int 0]], .list [.bool true, .bool false]], .tuple [.int 2, .list [.list [.int 0, .int 0, .int 1, .int 0], .list [.int 1, .int 0, .int 1, .int 1]], .list [.bool false, .bool true]]]) _ [some (.ref a), y, none, none, none]) H1 _ trivial ?_))
      rintro _ H2 e2 h2
      cases h2 with
      | @cons ke _ _ _ hE h2 =>
      cases h2 with
      | @cons kl _ _ _ hL h2 =>
      cases h2 with
      | nil =>
      have eqE : PyData.tuple [.int 1, .list [.list [.int 0, .int 1], .list [.int 1, .int 0]], .list [.bool true, .bool false]] = tbE.d := by rfl
      have eqL : PyData.tuple [.int 2, .list [.list [.int 0, .int 0, .int 1, .int 0], .list [.int 1, .int 0, .int 1, .int 1]], .list [.bool false, .bool true]] = tbL.d := by rfl
      have dE : Dt H2 ke tbE.d := eqE ▸ hE
      have dL : Dt H2 kl tbL.d := eqL ▸ hL
      clear hE hL
      clear e2 s1
      refine ⟨_, _, rfl, ?_⟩
      -- what is told
      refine ⟨sz1 (by decide), fun y1 hy1 => ⟨y1, [5, 2], 3, rfl, upd_same, by decide, by decide, by decide, fun p1 H3 s3 hp1 e3 => ?_⟩⟩
      have t3 := (same_new' hy1).trans s3
      have d1 := Dt.nats e3
      refine ⟨sz1 (by decide), fun y2 hy2 => ⟨y2, [1, 2, 1], 2, rfl, upd_same, by decide, by decide, by decide, fun p2 H4 s4 hp2 e4 => ?_⟩⟩
      have u4 := (same_new' hy2).trans s4
      have t4 := t3.trans u4
      have d1 := d1.to u4
      have d2 := Dt.nats e4
      refine ⟨_, rfl, sz1 (by decide), fun y3 hy3 => ⟨y3, [2, 5], 3, rfl, upd_same, by decide, by decide, by decide, fun p3 H5 s5 hp3 e5 => ?_⟩⟩
      have u5 := (same_new' hy3).trans s5
      have t5 := t4.trans u5
      refine ⟨kl, tbL, p3, tr 3 [2, 5], rfl, dL.to t5, goodL, niceL, e5, by decide, by decide, fun H6 s6 => ?_⟩
      have u6 := u5.trans s6
      have t6 := t5.trans s6
      have d1 := d1.to u6
      have d2 := d2.to u6
      refine ⟨_, rfl, sz1 (by decide), fun y4 hy4 => ⟨ke, tbE, y4, [1, 1, 1], rfl, dE.to (t6.trans (same_new' hy4)), goodE, niceE, upd_same, by decide, by decide, fun H7 s7 => ?_⟩⟩
      have u7 := (same_new' hy4).trans s7
      have t7 := t6.trans u7
      have d1 := d1.to u7
      have d2 := d2.to u7
      refine ⟨sz1 (by decide), fun y5 hy5 => ⟨y5, [0, 0], 0, rfl, upd_same, by decide, by decide, by decide, fun p5 H8 s8 hp5 e8 => ?_⟩⟩
      have u8 := (same_new' hy5).trans s8
      have t8 := t7.trans u8
      have d1 := d1.to u8
      have d2 := d2.to u8
      have d5 := Dt.nats e8
      refine ⟨sz1 (by decide), fun y6 hy6 => ⟨y6, [], 3, rfl, upd_same, by decide, by decide, by decide, fun p6 H9 s9 hp6 e9 => ?_⟩⟩
      have u9 := (same_new' hy6).trans s9
      have t9 := t8.trans u9
      have d1 := d1.to u9
      have d2 := d2.to u9
      have d5 := d5.to u9
      have d6 := Dt.nats e9
      refine ⟨sz1 (by decide), fun y7 hy7 => ⟨y7, [], 2, rfl, upd_same, by decide, by decide, by decide, fun p7 HA sA hp7 eA => ?_⟩⟩
      have uA := (same_new' hy7).trans sA
      have tA := t9.trans uA
      have d1 := d1.to uA
      have d2 := d2.to uA
      have d5 := d5.to uA
      have d6 := d6.to uA
      have d7 := Dt.nats eA
      refine ⟨sz1 (by show 7 ≤ 1000; decide), fun L hL => ?_⟩
      have sL := same_new' (o := .lst [.ref p1, .ref p2, .bl (Tb.takes tbL (tr 3 [2, 5])), .int (tbE.behind [1, 1, 1] : Nat), .ref p5, .ref p6, .ref p7]) hL
      have dT : Dt (upd HA L (.lst [.ref p1, .ref p2, .bl (Tb.takes tbL (tr 3 [2, 5])), .int (tbE.behind [1, 1, 1] : Nat), .ref p5, .ref p6, .ref p7])) (.ref L) (.list toldD) :=
        .lst upd_same (.cons (d1.to sL) (.cons (d2.to sL) (.cons (.bl _) (.cons (.int _) (.cons (d5.to sL) (.cons (d6.to sL) (.cons (d7.to sL) .nil)))))))
      have dE := dE.to (tA.trans sL)
      clear d1 d2 d5 d6 d7 t3 t4 t5 t6 t7 t8 t9 tA u4 u5 u6 u7 u8 u9 uA
      revert dT dE
      generalize (upd HA L (.lst [.ref p1, .ref p2, .bl (Tb.takes tbL (tr 3 [2, 5])), .int (tbE.behind [1, 1, 1] : Nat), .ref p5, .ref p6, .ref p7])) = HB
      intro dT dE
      refine ⟨_, rfl, (((Ev.elst (Eva.econs (Ev.elst (Eva.econs (Ev.eint 1) (Eva.econs (Ev.eint 2) (Eva.econs (Ev.eint 1) Eva.enil)))) (Eva.econs (Ev.elst (Eva.econs (Ev.eint 5) (Eva.econs (Ev.eint 2) Eva.enil))) (Eva.econs (Ev.ebl true) (Eva.econs (Ev.eint 1) (Eva.econs (Ev.elst Eva.enil) (Eva.econs (Ev.elst (Eva.econs (Ev.eint 0) (Eva.econs (Ev.eint 0) (Eva.econs (Ev.eint 0) Eva.enil)))) (Eva.econs (Ev.elst (Eva.econs (Ev.eint 0) (Eva.econs (Ev.eint 0) Eva.enil))) Eva.enil)))))))) : Ev _ (Ed (.list [.list [.int 1, .int 2, .int 1], .list [.int 5, .int 2], .bool true, .int 1, .list [], .list [.int 0, .int 0, .int 0], .list [.int 0, .int 0]])) _ [some (.ref a), y, some ke, some kl, some (.ref L)]) HB _ trivial ?_)⟩
      rintro x HC eC dx
      refine ⟨.list toldD, _, dT.to eC, dx, by decide +kernel, by decide +kernel, _, rfl, ?_⟩
      rw [show PyData.eqv (.list toldD) (.list [.list [.int 1, .int 2, .int 1], .list [.int 5, .int 2], .bool true, .int 1, .list [], .list [.int 0, .int 0, .int 0], .list [.int 0, .int 0]]) = true by decide +kernel]
      refine iteF ⟨_, rfl, sz1 (by decide), fun y8 hy8 => ⟨y8, 1001, _, rfl, rfl, upd_same, by decide, by decide, by show 1 * 1001 ≤ sizeLine; rw [sizeLine_eq]; decide, fun r8 hr8 => ?_⟩⟩
      have uD := (same_new' (o := .lst [V.int 1]) hy8).trans (same_new' (o := .lst (List.replicate (1001 : Int).toNat [V.int 1]).flatten) hr8)
      have dE := dE.to (eC.trans uD)
      refine ⟨ke, tbE, r8, List.replicate 1001 1, rfl, dE, goodE, niceE, by rw [upd_same]; exact congrArg (fun z => some (HO.lst z)) (natV_rep 1001 1), rep_mem (by decide), by rw [List.length_replicate]; decide, fun HD sD => ?_⟩
      have dE := dE.to sD
      refine ⟨rfl, _, rfl, ?_⟩
      rw [vi, show decide (((tbE.behind (List.replicate 1001 1) : Nat) : Int) = 1) = true by decide +kernel]
      refine iteF ⟨_, rfl, sz1 (by decide), fun y9 hy9 => ⟨y9, 700, _, rfl, rfl, upd_same, by decide, by decide, by show 2 * 700 ≤ sizeLine; rw [sizeLine_eq]; decide, fun r9 hr9 => ?_⟩⟩
      have uE := (same_new' (o := .lst [V.int 1, .int 0]) hy9).trans (same_new' (o := .lst (List.replicate (700 : Int).toNat [V.int 1, .int 0]).flatten) hr9)
      have dE := dE.to uE
      refine ⟨ke, tbE, r9, (List.replicate 700 [1, 0]).flatten, rfl, dE, goodE, niceE, by rw [upd_same]; exact congrArg (fun z => some (HO.lst z)) (natV_rep2 700 1 0), rep2_mem, by decide +kernel, fun HE sE => ?_⟩
      refine ⟨_, _, rfl, rfl, _, rfl, ?_⟩
      rw [show Tb.takes tbE (List.replicate 700 [1, 0]).flatten = true by decide +kernel]
      refine iteF ?_
      refine ⟨sz1 (by decide), fun ya hya => ⟨ya, 100, _, rfl, rfl, upd_same, by decide, by decide, by show 1 * 100 ≤ sizeLine; rw [sizeLine_eq]; decide, fun ra hra => ?_⟩⟩
      refine ⟨ra, List.replicate 100 1, 1, rfl, by rw [upd_same]; exact congrArg (fun z => some (HO.lst z)) (natV_rep 100 1), by decide, rep_mem (by decide), by rw [List.length_replicate]; decide, fun pa HF sF hpa eF => ?_⟩
      refine ⟨50, rfl, by decide, 50, rfl, by decide, _, _, rfl, rfl, (by exact mulx_ok (a := 60) (b := 60) (by decide +kernel) (by decide +kernel) (by decide)), _, _, rfl, rfl, sz1 (by decide), fun pb hpb => ?_⟩
      refine ⟨_, _, (Dt.nats eF).to (same_new' hpb), .lst upd_same (.cons (.int _) .nil), shaped_nats, by decide +kernel, _, rfl, ?_⟩
      rw [show PyData.eqv (.list (natD (tr 1 (List.replicate 100 1)))) (.list [.int (((2 ^ 50 : Nat) : Int) * ((2 ^ 50 : Nat) : Int) - 1)]) = true by decide +kernel]
      refine iteT ?_
      refine ⟨sz1 (by decide), fun ya hya => ⟨ya, 70, _, rfl, rfl, upd_same, by decide, by decide, by show 1 * 70 ≤ sizeLine; rw [sizeLine_eq]; decide, fun ra hra => ?_⟩⟩
      refine ⟨ra, List.replicate 70 2, 2, rfl, by rw [upd_same]; exact congrArg (fun z => some (HO.lst z)) (natV_rep 70 2), by decide, rep_mem (by decide), by rw [List.length_replicate]; decide, fun pa HF sF hpa eF => ?_⟩
      refine ⟨35, rfl, by decide, 35, rfl, by decide, _, _, rfl, rfl, (by exact mulx_ok (a := 60) (b := 60) (by decide +kernel) (by decide +kernel) (by decide)), _, _, rfl, rfl, sz1 (by decide), fun pb hpb => ?_⟩
      refine ⟨_, _, (Dt.nats eF).to (same_new' hpb), .lst upd_same (.cons (.int _) (.cons (.int _) .nil)), shaped_nats, by decide +kernel, ?_⟩
      rw [show PyData.eqv (.list (natD (tr 2 (List.replicate 70 2)))) (.list [.int 0, .int (((2 ^ 35 : Nat) : Int) * ((2 ^ 35 : Nat) : Int) - 1)]) = true by decide +kernel]
      exact q _
end

end K13

set_option Elab.async false
set_option linter.all false
set_option maxRecDepth 100000
set_option maxHeartbeats 0
/-! ### the end -/
namespace K13E
open PySem PySem.Spec PyProof.Rows L2 Hw K13
def d_is_whole : He.DefD := ⟨("is_whole", none), "is_whole", "is_whole", defArgs s_is_whole, defBody s_is_whole, defScope s_is_whole, [], []⟩
def d_is_count_to : He.DefD := ⟨("is_count_to", none), "is_count_to", "is_count_to", defArgs s_is_count_to, defBody s_is_count_to, defScope s_is_count_to, [], []⟩
def d_is_row : He.DefD := ⟨("is_row", none), "is_row", "is_row", defArgs s_is_row, defBody s_is_row, defScope s_is_row, [], []⟩
def d_is_word_of : He.DefD := ⟨("is_word_of", none), "is_word_of", "is_word_of", defArgs s_is_word_of, defBody s_is_word_of, defScope s_is_word_of, [], []⟩
def d_check_width : He.DefD := ⟨("check_width", none), "check_width", "check_width", defArgs s_check_width, defBody s_check_width, defScope s_check_width, [], []⟩
def d_check_width_to : He.DefD := ⟨("check_width_to", none), "check_width_to", "check_width_to", defArgs s_check_width_to, defBody s_check_width_to, defScope s_check_width_to, [], []⟩
def d_is_table_form : He.DefD := ⟨("is_table_form", none), "is_table_form", "is_table_form", defArgs s_is_table_form, defBody s_is_table_form, defScope s_is_table_form, [], []⟩
def d_is_step : He.DefD := ⟨("is_step", none), "is_step", "is_step", defArgs s_is_step, defBody s_is_step, defScope s_is_step, [], []⟩
def d_letters_of : He.DefD := ⟨("letters_of", none), "letters_of", "letters_of", defArgs s_letters_of, defBody s_letters_of, defScope s_letters_of, [], []⟩
def d_stand_after : He.DefD := ⟨("stand_after", none), "stand_after", "stand_after", defArgs s_stand_after, defBody s_stand_after, defScope s_stand_after, [], []⟩
def d_is_table : He.DefD := ⟨("is_table", none), "is_table", "is_table", defArgs s_is_table, defBody s_is_table, defScope s_is_table, [], []⟩
def d_check_table : He.DefD := ⟨("check_table", none), "check_table", "check_table", defArgs s_check_table, defBody s_check_table, defScope s_check_table, [], []⟩
def d_check_many : He.DefD := ⟨("check_many", none), "check_many", "check_many", defArgs s_check_many, defBody s_check_many, defScope s_check_many, [], []⟩
def d_check_row : He.DefD := ⟨("check_row", none), "check_row", "check_row", defArgs s_check_row, defBody s_check_row, defScope s_check_row, [], []⟩
def d_stand_behind : He.DefD := ⟨("stand_behind", none), "stand_behind", "stand_behind", defArgs s_stand_behind, defBody s_stand_behind, defScope s_stand_behind, [], []⟩
def d_takes : He.DefD := ⟨("takes", none), "takes", "takes", defArgs s_takes, defBody s_takes, defScope s_takes, [], []⟩
def d_table_ends : He.DefD := ⟨("table_ends", none), "table_ends", "table_ends", defArgs s_table_ends, defBody s_table_ends, defScope s_table_ends, [], []⟩
def d_row_of : He.DefD := ⟨("row_of", none), "row_of", "row_of", defArgs s_row_of, defBody s_row_of, defScope s_row_of, [], []⟩
def d_words_of : He.DefD := ⟨("words_of", none), "words_of", "words_of", defArgs s_words_of, defBody s_words_of, defScope s_words_of, [], []⟩
def d_law_hash : He.DefD := ⟨("_law_hash", none), "_law_hash", "_law_hash", defArgs s_law_hash, defBody s_law_hash, defScope s_law_hash, [], []⟩
def d_law_random : He.DefD := ⟨("_law_random", none), "_law_random", "_law_random", defArgs s_law_random, defBody s_law_random, defScope s_law_random, [], []⟩
def d_law_cell : He.DefD := ⟨("_law_cell", none), "_law_cell", "_law_cell", defArgs s_law_cell, defBody s_law_cell, defScope s_law_cell, [], []⟩
def d_law_generator : He.DefD := ⟨("_law_generator", none), "_law_generator", "_law_generator", defArgs s_law_generator, defBody s_law_generator, defScope s_law_generator, [], []⟩
def d_law_two : He.DefD := ⟨("_law_two", none), "_law_two", "_law_two", defArgs s_law_two, defBody s_law_two, defScope s_law_two, [], []⟩
def d_law_table : He.DefD := ⟨("_law_table", none), "_law_table", "_law_table", defArgs s_law_table, defBody s_law_table, defScope s_law_table, [], []⟩
def d_law_behind : He.DefD := ⟨("_law_behind", none), "_law_behind", "_law_behind", defArgs s_law_behind, defBody s_law_behind, defScope s_law_behind, [], []⟩
def d_law_takes : He.DefD := ⟨("_law_takes", none), "_law_takes", "_law_takes", defArgs s_law_takes, defBody s_law_takes, defScope s_law_takes, [], []⟩
def d_law_is_table : He.DefD := ⟨("_law_is_table", none), "_law_is_table", "_law_is_table", defArgs s_law_is_table, defBody s_law_is_table, defScope s_law_is_table, [], []⟩
def d_law_bent : He.DefD := ⟨("_law_bent", none), "_law_bent", "_law_bent", defArgs s_law_bent, defBody s_law_bent, defScope s_law_bent, [], []⟩
def d_law_right : He.DefD := ⟨("_law_right", none), "_law_right", "_law_right", defArgs s_law_right, defBody s_law_right, defScope s_law_right, [], []⟩
def d_law : He.DefD := ⟨("law", none), "law", "law", defArgs s_law, defBody s_law, defScope s_law, [], []⟩
def fn : List He.DefD := [d_is_whole, d_is_count_to, d_is_row, d_is_word_of, d_check_width, d_check_width_to, d_is_table_form, d_is_step, d_letters_of, d_stand_after, d_is_table, d_check_table, d_check_many, d_check_row, d_stand_behind, d_takes, d_table_ends, d_row_of, d_words_of, d_law_hash, d_law_random, d_law_cell, d_law_generator, d_law_two, d_law_table, d_law_behind, d_law_takes, d_law_is_table, d_law_bent, d_law_right, d_law]
def fa : List He.Fa := [.glo "is_whole", .glo "is_count_to", .glo "is_row", .glo "is_word_of", .glo "check_width", .glo "check_width_to", .glo "is_table_form", .glo "is_step", .glo "letters_of", .glo "stand_after", .glo "is_table", .glo "check_table", .glo "check_many", .glo "check_row", .glo "stand_behind", .glo "takes", .glo "table_ends", .glo "row_of", .glo "words_of", .glo "_law_hash", .glo "_law_random", .glo "_law_cell", .glo "_law_generator", .glo "_law_two", .glo "_law_table", .glo "_law_behind", .glo "_law_takes", .glo "_law_is_table", .glo "_law_bent", .glo "_law_right", .glo "law", .free "all", .free "bool", .free "enumerate", .free "int", .free "isinstance", .free "len", .free "list", .free "max", .free "range", .free "repr", .free "sum", .free "tuple", .int "MOST_WIDTH" 64, .int "MOST_NAMES" 6]
abbrev R : PySem.W.OpenRow := PySem.W.OpenLaw.row PySem.Challenge.rw_howeverwide_k13_whole_tables_and_rows
abbrev hk : PySem.W.Hook := He.hookD 4 fa fn
def ob (s : PySem.W.SharedT) : He.AlD := He.obsDG 4 fa fn (HandSHeadRun.getT s)
theorem ob_eq (s : PySem.W.SharedT) : ob s = hk.obs s.abs := He.obsDG_eq (HandSHeadRun.getT_eq s)
def loose0 : List PySem.Str := ["ClaimError", "InvalidNumber", "InvalidWidth", "InvalidWord", "InvalidTable", "MOST_WIDTH", "MOST_NAMES", "is_whole", "is_count_to", "is_row", "is_word_of", "check_width", "check_width_to", "is_table_form", "is_step", "letters_of", "stand_after", "is_table", "check_table", "check_many"]
def loose1 : List PySem.Str := ["check_row", "stand_behind", "takes", "table_ends", "row_of", "words_of", "_law_hash", "_law_random", "_law_cell", "_law_generator", "_law_two", "_law_table", "_law_rows", "_law_behind", "_law_takes", "_law_reached", "_law_alike", "_law_least", "_law_product", "_law_whole"]
def loose2 : List PySem.Str := ["_law_some", "_law_turned", "_law_placed", "_law_kept", "_law_is_table", "_law_bent", "_law_right"]
def loose : List PySem.Str := loose0 ++ loose1 ++ loose2
theorem run (w : World) : HandSHeadRun.RunEq R (PySem.W.view R.prog [51]) hk ob 4000 loose w := by
  intro os
  kernel_rfl
theorem facts {P : Program} {w : World} {K : PySem.W.Frag} {h : Heap} {mg : Str → Option Value} {f : Addr} (X : K.In h) (G : h.Ns mainGlobals mg) (hfa : mg ("law" : Str) = some (.ref f)) (c : He.SaysD fa fn K) :
    ∃ fd : FuncData, (∀ (s : Shared) (v : Value), BindsTo s fd ⟨[v], []⟩ [("_law_script", v)]) ∧ ∀ base : Heap, K.In base → base.Ns mainGlobals mg → FnG P w K mg base CX0 9 f fd ["_law_script"] (spLaw K) := by
  obtain ⟨e_is_whole, F_is_whole⟩ := c.def_ 0 (d := d_is_whole) rfl
  obtain ⟨e_is_count_to, F_is_count_to⟩ := c.def_ 1 (d := d_is_count_to) rfl
  obtain ⟨e_is_row, F_is_row⟩ := c.def_ 2 (d := d_is_row) rfl
  obtain ⟨e_is_word_of, F_is_word_of⟩ := c.def_ 3 (d := d_is_word_of) rfl
  obtain ⟨e_check_width, F_check_width⟩ := c.def_ 4 (d := d_check_width) rfl
  obtain ⟨e_check_width_to, F_check_width_to⟩ := c.def_ 5 (d := d_check_width_to) rfl
  obtain ⟨e_is_table_form, F_is_table_form⟩ := c.def_ 6 (d := d_is_table_form) rfl
  obtain ⟨e_is_step, F_is_step⟩ := c.def_ 7 (d := d_is_step) rfl
  obtain ⟨e_letters_of, F_letters_of⟩ := c.def_ 8 (d := d_letters_of) rfl
  obtain ⟨e_stand_after, F_stand_after⟩ := c.def_ 9 (d := d_stand_after) rfl
  obtain ⟨e_is_table, F_is_table⟩ := c.def_ 10 (d := d_is_table) rfl
  obtain ⟨e_check_table, F_check_table⟩ := c.def_ 11 (d := d_check_table) rfl
  obtain ⟨e_check_many, F_check_many⟩ := c.def_ 12 (d := d_check_many) rfl
  obtain ⟨e_check_row, F_check_row⟩ := c.def_ 13 (d := d_check_row) rfl
  obtain ⟨e_stand_behind, F_stand_behind⟩ := c.def_ 14 (d := d_stand_behind) rfl
  obtain ⟨e_takes, F_takes⟩ := c.def_ 15 (d := d_takes) rfl
  obtain ⟨e_table_ends, F_table_ends⟩ := c.def_ 16 (d := d_table_ends) rfl
  obtain ⟨e_row_of, F_row_of⟩ := c.def_ 17 (d := d_row_of) rfl
  obtain ⟨e_words_of, F_words_of⟩ := c.def_ 18 (d := d_words_of) rfl
  obtain ⟨e_law_hash, F_law_hash⟩ := c.def_ 19 (d := d_law_hash) rfl
  obtain ⟨e_law_random, F_law_random⟩ := c.def_ 20 (d := d_law_random) rfl
  obtain ⟨e_law_cell, F_law_cell⟩ := c.def_ 21 (d := d_law_cell) rfl
  obtain ⟨e_law_generator, F_law_generator⟩ := c.def_ 22 (d := d_law_generator) rfl
  obtain ⟨e_law_two, F_law_two⟩ := c.def_ 23 (d := d_law_two) rfl
  obtain ⟨e_law_table, F_law_table⟩ := c.def_ 24 (d := d_law_table) rfl
  obtain ⟨e_law_behind, F_law_behind⟩ := c.def_ 25 (d := d_law_behind) rfl
  obtain ⟨e_law_takes, F_law_takes⟩ := c.def_ 26 (d := d_law_takes) rfl
  obtain ⟨e_law_is_table, F_law_is_table⟩ := c.def_ 27 (d := d_law_is_table) rfl
  obtain ⟨e_law_bent, F_law_bent⟩ := c.def_ 28 (d := d_law_bent) rfl
  obtain ⟨e_law_right, F_law_right⟩ := c.def_ 29 (d := d_law_right) rfl
  obtain ⟨e_law, F_law⟩ := c.def_ 30 (d := d_law) rfl
  have g_is_whole := He.glo_ok X G (c.fact 0 (f := .glo "is_whole") rfl)
  have g_is_count_to := He.glo_ok X G (c.fact 1 (f := .glo "is_count_to") rfl)
  have g_is_row := He.glo_ok X G (c.fact 2 (f := .glo "is_row") rfl)
  have g_is_word_of := He.glo_ok X G (c.fact 3 (f := .glo "is_word_of") rfl)
  have g_check_width := He.glo_ok X G (c.fact 4 (f := .glo "check_width") rfl)
  have g_check_width_to := He.glo_ok X G (c.fact 5 (f := .glo "check_width_to") rfl)
  have g_is_table_form := He.glo_ok X G (c.fact 6 (f := .glo "is_table_form") rfl)
  have g_is_step := He.glo_ok X G (c.fact 7 (f := .glo "is_step") rfl)
  have g_letters_of := He.glo_ok X G (c.fact 8 (f := .glo "letters_of") rfl)
  have g_stand_after := He.glo_ok X G (c.fact 9 (f := .glo "stand_after") rfl)
  have g_is_table := He.glo_ok X G (c.fact 10 (f := .glo "is_table") rfl)
  have g_check_table := He.glo_ok X G (c.fact 11 (f := .glo "check_table") rfl)
  have g_check_many := He.glo_ok X G (c.fact 12 (f := .glo "check_many") rfl)
  have g_check_row := He.glo_ok X G (c.fact 13 (f := .glo "check_row") rfl)
  have g_stand_behind := He.glo_ok X G (c.fact 14 (f := .glo "stand_behind") rfl)
  have g_takes := He.glo_ok X G (c.fact 15 (f := .glo "takes") rfl)
  have g_table_ends := He.glo_ok X G (c.fact 16 (f := .glo "table_ends") rfl)
  have g_row_of := He.glo_ok X G (c.fact 17 (f := .glo "row_of") rfl)
  have g_words_of := He.glo_ok X G (c.fact 18 (f := .glo "words_of") rfl)
  have g_law_hash := He.glo_ok X G (c.fact 19 (f := .glo "_law_hash") rfl)
  have g_law_random := He.glo_ok X G (c.fact 20 (f := .glo "_law_random") rfl)
  have g_law_cell := He.glo_ok X G (c.fact 21 (f := .glo "_law_cell") rfl)
  have g_law_generator := He.glo_ok X G (c.fact 22 (f := .glo "_law_generator") rfl)
  have g_law_two := He.glo_ok X G (c.fact 23 (f := .glo "_law_two") rfl)
  have g_law_table := He.glo_ok X G (c.fact 24 (f := .glo "_law_table") rfl)
  have g_law_behind := He.glo_ok X G (c.fact 25 (f := .glo "_law_behind") rfl)
  have g_law_takes := He.glo_ok X G (c.fact 26 (f := .glo "_law_takes") rfl)
  have g_law_is_table := He.glo_ok X G (c.fact 27 (f := .glo "_law_is_table") rfl)
  have g_law_bent := He.glo_ok X G (c.fact 28 (f := .glo "_law_bent") rfl)
  have g_law_right := He.glo_ok X G (c.fact 29 (f := .glo "_law_right") rfl)
  have g_law := He.glo_ok X G (c.fact 30 (f := .glo "law") rfl)
  have i_MOST_WIDTH : ∃ u, mg "MOST_WIDTH" = some u ∧ RelV (.int 64) u := by
    obtain ⟨t, q⟩ := He.int_ok X G (c.fact 43 (f := .int "MOST_WIDTH" 64) rfl)
    exact ⟨_, q, t, rfl⟩
  have i_MOST_NAMES : ∃ u, mg "MOST_NAMES" = some u ∧ RelV (.int 6) u := by
    obtain ⟨t, q⟩ := He.int_ok X G (c.fact 44 (f := .int "MOST_NAMES" 6) rfl)
    exact ⟨_, q, t, rfl⟩
  have e := hfa.symm.trans g_law
  cases e
  let T : Tx K mg := { a_is_whole := _, d_is_whole := e_is_whole, F_is_whole := F_is_whole, g_is_whole := g_is_whole, a_is_count_to := _, d_is_count_to := e_is_count_to, F_is_count_to := F_is_count_to, g_is_count_to := g_is_count_to, a_is_row := _, d_is_row := e_is_row, F_is_row := F_is_row, g_is_row := g_is_row, a_is_word_of := _, d_is_word_of := e_is_word_of, F_is_word_of := F_is_word_of, g_is_word_of := g_is_word_of, a_check_width := _, d_check_width := e_check_width, F_check_width := F_check_width, g_check_width := g_check_width, a_check_width_to := _, d_check_width_to := e_check_width_to, F_check_width_to := F_check_width_to, g_check_width_to := g_check_width_to, a_is_table_form := _, d_is_table_form := e_is_table_form, F_is_table_form := F_is_table_form, g_is_table_form := g_is_table_form, a_is_step := _, d_is_step := e_is_step, F_is_step := F_is_step, g_is_step := g_is_step, a_letters_of := _, d_letters_of := e_letters_of, F_letters_of := F_letters_of, g_letters_of := g_letters_of, a_stand_after := _, d_stand_after := e_stand_after, F_stand_after := F_stand_after, g_stand_after := g_stand_after, a_is_table := _, d_is_table := e_is_table, F_is_table := F_is_table, g_is_table := g_is_table, a_check_table := _, d_check_table := e_check_table, F_check_table := F_check_table, g_check_table := g_check_table, a_check_many := _, d_check_many := e_check_many, F_check_many := F_check_many, g_check_many := g_check_many, a_check_row := _, d_check_row := e_check_row, F_check_row := F_check_row, g_check_row := g_check_row, a_stand_behind := _, d_stand_behind := e_stand_behind, F_stand_behind := F_stand_behind, g_stand_behind := g_stand_behind, a_takes := _, d_takes := e_takes, F_takes := F_takes, g_takes := g_takes, a_table_ends := _, d_table_ends := e_table_ends, F_table_ends := F_table_ends, g_table_ends := g_table_ends, a_row_of := _, d_row_of := e_row_of, F_row_of := F_row_of, g_row_of := g_row_of, a_words_of := _, d_words_of := e_words_of, F_words_of := F_words_of, g_words_of := g_words_of, a_law_hash := _, d_law_hash := e_law_hash, F_law_hash := F_law_hash, g_law_hash := g_law_hash, a_law_random := _, d_law_random := e_law_random, F_law_random := F_law_random, g_law_random := g_law_random, a_law_cell := _, d_law_cell := e_law_cell, F_law_cell := F_law_cell, g_law_cell := g_law_cell, a_law_generator := _, d_law_generator := e_law_generator, F_law_generator := F_law_generator, g_law_generator := g_law_generator, a_law_two := _, d_law_two := e_law_two, F_law_two := F_law_two, g_law_two := g_law_two, a_law_table := _, d_law_table := e_law_table, F_law_table := F_law_table, g_law_table := g_law_table, a_law_behind := _, d_law_behind := e_law_behind, F_law_behind := F_law_behind, g_law_behind := g_law_behind, a_law_takes := _, d_law_takes := e_law_takes, F_law_takes := F_law_takes, g_law_takes := g_law_takes, a_law_is_table := _, d_law_is_table := e_law_is_table, F_law_is_table := F_law_is_table, g_law_is_table := g_law_is_table, a_law_bent := _, d_law_bent := e_law_bent, F_law_bent := F_law_bent, g_law_bent := g_law_bent, a_law_right := _, d_law_right := e_law_right, F_law_right := F_law_right, g_law_right := g_law_right, a_law := _, d_law := e_law, F_law := F_law, g_law := g_law, z_all := He.free_ok X G (c.fact 31 (f := .free "all") rfl), z_bool := He.free_ok X G (c.fact 32 (f := .free "bool") rfl), z_enumerate := He.free_ok X G (c.fact 33 (f := .free "enumerate") rfl), z_int := He.free_ok X G (c.fact 34 (f := .free "int") rfl), z_isinstance := He.free_ok X G (c.fact 35 (f := .free "isinstance") rfl), z_len := He.free_ok X G (c.fact 36 (f := .free "len") rfl), z_list := He.free_ok X G (c.fact 37 (f := .free "list") rfl), z_max := He.free_ok X G (c.fact 38 (f := .free "max") rfl), z_range := He.free_ok X G (c.fact 39 (f := .free "range") rfl), z_repr := He.free_ok X G (c.fact 40 (f := .free "repr") rfl), z_sum := He.free_ok X G (c.fact 41 (f := .free "sum") rfl), z_tuple := He.free_ok X G (c.fact 42 (f := .free "tuple") rfl), c_MOST_WIDTH := i_MOST_WIDTH, c_MOST_NAMES := i_MOST_NAMES }
  have b := FunD.bindsA (ps := ["_law_script"]) F_law fun _ _ _ _ _ _ us hl => match us, hl with | [_], _ => rfl
  exact ⟨e_law, fun s v => b s [v] rfl, fun base _ _ => ok_law T⟩
end K13E
open PySem PySem.W PySem.Calls PyProof.Rows
set_option maxRecDepth 100000 in
set_option maxHeartbeats 0 in
theorem PySem.Challenge.cw_howeverwide_k13_whole_tables_and_rows_holds : PySem.Challenge.rw_howeverwide_k13_whole_tables_and_rows.Holds := by
  w_on; o_law
  refine HandSHeadRun.head_any (r := OpenLaw.row PySem.Challenge.rw_howeverwide_k13_whole_tables_and_rows) (q := view (OpenLaw.row PySem.Challenge.rw_howeverwide_k13_whole_tables_and_rows).prog [51]) (H := K13E.hk) (ob := K13E.ob) (M := 4000) (loose := K13E.loose) (d := HandSHeadRun.topDef (OpenLaw.row PySem.Challenge.rw_howeverwide_k13_whole_tables_and_rows).prog 51) (kwd := []) K13E.ob_eq
    (by kernel_rfl) (fun s => by kernel_rfl) K13E.run (by kernel_rfl) (by kernel_rfl) (by kernel_rfl) (by rfl) (by first | assumption | decide +kernel) (by decide +kernel) ⟨rfl, rfl, rfl, rfl, rfl, by decide +kernel⟩ ?hw ?hc
  case hw => w_witness2
  case hc =>
    refine Hw.walkG (l := PySem.Challenge.rw_howeverwide_k13_whole_tables_and_rows) (n := 63) (k := 9) (x := "_law_script") rfl (by decide) (by kernel_rfl) ⟨rfl, by decide, by decide⟩ ?F
    intro w mg fa h Y G hmg0
    obtain ⟨K, KX, c⟩ := Y
    have hmg : mg ("law" : PySem.Str) = some (.ref fa) := by
      have e : (HandSHeadRun.topDef (OpenLaw.row PySem.Challenge.rw_howeverwide_k13_whole_tables_and_rows).prog 51).name = ("law" : PySem.Str) := by kernel_rfl
      rw [← e]
      exact hmg0
    obtain ⟨fd, hb, hF⟩ := K13E.facts (P := (PySem.Challenge.rw_howeverwide_k13_whole_tables_and_rows).prog) (w := w) KX G hmg c
    exact ⟨K, fd, K13.spLaw K, KX, hb, fun H a ns hl _ hS => ⟨a, ns, rfl, hl, hS, fun _ => rfl⟩, hF⟩
