import PyProof.Rows.All
import Wide.All
import OpenK.AllK
import Wide.FinOn
import PyProof.ReprRoads
import HandS.Base
import HandS.Call
import HandS.List
import HandS.Comp
import HandS.Ends
import HandS.Words
import HandS.Wide
import HandS.WideBits
import HandS.IsInst
import HandS.Defaults
import HandS.Flow
import HandS.Walk
import HandS.Codes
import HandS.Conv
import HandS.ForMost
import HandS.TupAny
import HandS.TupLe
import HandS.Dict
import HandS.SortInts
import KE.LtData
import KE.KSortAsk
import PyProof.Rows.InDataRows
import KE.KxField
import KE.KRevSl
import HandS.Text
import PyProof.Draws
import PyProof.EnumMake
import HandS.FStr
import PySem.Challenge.RW_howeverwide_k63_whole_crossing_lots
import KE.KStateDown
import Lean
import HandS.Head0
import HandS.Head1
import HandS.Head2
import HandS.HeadEnd
import HandS.HeadHook1
import HandS.HeadHook2
set_option Elab.async false
set_option linter.all false
set_option maxRecDepth 100000
set_option maxHeartbeats 4000000
/-! A layer of ours over HandS: defs whose runs know that no repr stands around them (so that repr of lists may be shown), calls by keywords alone, repr of data, powers. -/
namespace Hw
open PySem PySem.Spec PyProof.Rows L2

/-- no repr is under way -/
abbrev Gd (A : Around) : Prop := A.guards = some []

section
variable (P : Program) (w : World) (K : PySem.W.Frag) (mg : Str → Option Value) (base : Heap) (CX : CXT)
/-- a def's promise where no repr is under way -/
structure FnG (k : Nat) (f : Addr) (fd : FuncData) (ps : List Str) (sp : Sp) : Prop where
  arity : ∀ vs H Q E, sp vs H Q E → vs.length = ps.length
  go : ∀ (A : Around) (outer : List Env) (s : Shared) (H : Hp) (args : Args) (us : List Value) (vs : List V) (Q : VK) (E : XK),
    Gd A → Room k A → Env0 P w K mg base A outer s H → BindsTo s fd args (ps.zip us) → Vals vs us → sp vs H Q E → codeAny (model P w) A (.call (.ref f) args) (CR CX outer P w H s Q E) s
end
section
variable {P : Program} {w : World} {K : PySem.W.Frag} {mg : Str → Option Value} {base : Heap} {CX : CXT}
theorem FnG.up {j k : Nat} {f : Addr} {fd : FuncData} {ps : List Str} {sp : Sp} (F : FnG P w K mg base CX j f fd ps sp) (h : j ≤ k) : FnG P w K mg base CX k f fd ps sp :=
  ⟨F.arity, fun A outer s H args us vs Q E g r => F.go A outer s H args us vs Q E g (r.mono h)⟩
theorem FnG.weak {k : Nat} {f : Addr} {fd : FuncData} {ps : List Str} {sp sp' : Sp} (F : FnG P w K mg base CX k f fd ps sp) (h : ∀ vs H Q E, sp' vs H Q E → sp vs H Q E) : FnG P w K mg base CX k f fd ps sp' :=
  ⟨fun vs H Q E q => F.arity vs H Q E (h _ _ _ _ q), fun A outer s H args us vs Q E g r e b v q => F.go A outer s H args us vs Q E g r e b v (h _ _ _ _ q)⟩
theorem FnG.ofOk {k : Nat} {f : Addr} {fd : FuncData} {ps : List Str} {sp : Sp} (F : FnOk P w K mg base CX k f fd ps sp) : FnG P w K mg base CX k f fd ps sp :=
  ⟨F.len, fun A outer s H args us vs Q E _ => F.run A outer s H args us vs Q E⟩

/-- a def of the text without defaults -/
abbrev DefAt (K : PySem.W.Frag) (x : Str) (st : Stmt) (f : Addr) (fd : FuncData) : Prop := FunD K x x (defArgs st) (defBody st) (defScope st) [] [] f fd

/-- the rule of a def's body, where no repr is under way -/
theorem bodyG {x qual : Str} {params : Arguments} {body : List Stmt} {scope : Scope} {dvs : List V} {kws : List (Str × V)} {f : Addr} {fd : FuncData} {N ps : List Str} {k : Nat} {sp : Sp}
    (F : FunD K x qual params body scope dvs kws f fd) (S : FnScope N ps scope) (ar : ∀ vs H Q E, sp vs H Q E → vs.length = ps.length)
    (hb : ∀ (cdv : Value) (A : Around) (outer : List Env) (s : Shared) (H : Hp) (vs : List V) (Q : VK) (E : XK), Gd (A.deeper (envOfC qual scope s.heap.objs.size f cdv)) → Room k (A.deeper (envOfC qual scope s.heap.objs.size f cdv)) → sp vs H Q E →
      ∃ t, PSs (cxOf CX P w K mg base N qual scope f cdv A outer s H E) body t ∧ t { nx := fun _ H' => Q .non H', rt := Q } (start N vs) H) : FnG P w K mg base CX (k + 1) f fd ps sp := by
  refine ⟨ar, ?_⟩
  intro A outer s H args us vs Q E gd room env bind rel want
  obtain ⟨oc, od, dV, kV, doc, pm, an, cdv, ct, osl, rfl, look, codeIs, -, -⟩ := F.ex
  have inK : K.In s.heap := env.mod.kin.keeps fun b o q => (env.bs b o q).1
  have noLim : s.heap.NoLimit := env.mod.nolimit.keeps fun b o q => (env.bs b o q).1
  have kinds : ∀ y ∈ ps.zip us, scope.names.lookup y.1 = some .local ∨ (scope.names.lookup y.1 = some .cell ∧ ((cellsFrom (s.heap.objs.size + 1) scope.names []).lookup y.1).isSome = true) := by
    rintro ⟨n, v⟩ hy
    cases S.par n (List.of_mem_zip hy).1 with
    | inl q => exact Or.inl q
    | inr q => exact Or.inr ⟨q, PySem.W.cellsFrom_some _ _ _ (Or.inl q)⟩
  refine codeAny_call_function room.depth (inK _ _ look) rfl S.co S.gen rfl (PySem.W.codeRec_of inK codeIs) (bind _ _ _ _ ?_)
  refine wpAny_newFunctionEnv_cells S.kind kinds ?_
  rintro env' rfl s1 x1
  refine ⟨noLim.keeps x1.toInCall.keep, codeAny_func ?_⟩
  obtain ⟨t, run, done⟩ := hb cdv A outer s H vs Q E gd (room.deeper _) want
  have I := inv_start (CX := CX) (E := E) S room.hd env (ar _ _ _ _ want) rel x1
  refine wpAny_mono (run.run [] s1 (start N vs) H _ I done) ?_ (fun _ _ q => q)
  intro fl s' after
  cases fl with
  | ret u =>
    obtain ⟨v, σ', H', J, rv, q⟩ := after
    exact ⟨v, H', J.os, J.bare, J.base, J.hok, rv, q⟩
  | next =>
    obtain ⟨σ', H', J, q⟩ := after
    exact ⟨V.non, H', J.os, J.bare, J.base, J.hok, rfl, q⟩
  | brk => exact (after.choose_spec.choose_spec.2 : False).elim
  | cont => exact (after.choose_spec.choose_spec.2 : False).elim
/-- the same for a def that lets nothing out -/
theorem bodyG0 {x : Str} {st : Stmt} {f : Addr} {fd : FuncData} {N ps : List Str} {k : Nat} {sp : Sp}
    (F : DefAt K x st f fd) (S : FnScope N ps (defScope st)) (ar : ∀ vs H Q E, sp vs H Q E → vs.length = ps.length)
    (hb : ∀ (cdv : Value) (A : Around) (outer : List Env) (s : Shared) (H : Hp) (vs : List V) (Q : VK) (E : XK), Gd (A.deeper (envOfC x (defScope st) s.heap.objs.size f cdv)) → Room k (A.deeper (envOfC x (defScope st) s.heap.objs.size f cdv)) → sp vs H Q E →
      ∃ t, PSs (cxOf CX0 P w K mg base N x (defScope st) f cdv A outer s H E).nox (defBody st) t ∧ t { nx := fun _ H' => Q .non H', rt := Q } (start N vs) H) : FnG P w K mg base CX0 (k + 1) f fd ps sp :=
  bodyG F S ar fun cdv A outer s H vs Q E gd room want => by
    obtain ⟨t, a, b⟩ := hb cdv A outer s H vs Q E gd room want
    exact ⟨t, a.nox, b⟩
end

section
variable {X : Cx} {CX : CXT} {k : Nat} {f : Addr} {fd : FuncData} {ps ks : List Str} {sp : Sp} {dvs : List V} {ds : List Value} {E : XK} {x : Str} {p pos : Pos} {e : Expr} {es : List Expr} {kws : List Keyword} {t tk : TA}
theorem runG {pins : List (Addr × Obj)} {σ : L2.St} {H : Hp} {s : Shared} {Q : VK} {us0 : List Value} {kw : List (Str × Value)} {us : List Value} {vs : List V} (F : FnG X.prog X.w X.K X.mg X.base CX k f fd ps sp) (gd : Gd X.A) (hr : Room k X.A) (hx : Passes CX X E)
    (I : Inv X pins σ H s) (hb : BindsTo s fd ⟨us0, kw⟩ (ps.zip us)) (r : Vals vs us) (h : sp vs H Q E) : wpAny (model X.prog X.w) X.A (call (.ref f) us0 kw) (EP X pins σ Q) X.xe s := by
  refine wpAny_call (codeAny_mono (F.go X.A X.stack s H ⟨us0, kw⟩ us vs Q E gd hr I.env0 hb r h) ?_)
  intro r s' q
  match r, q with
  | .error e, q => exact hx pins σ H s e s' I q
  | .ok (.ret u), q => exact I.after q
  | .ok .next, q => exact (show False from q).elim
  | .ok .brk, q => exact (show False from q).elim
  | .ok .cont, q => exact (show False from q).elim
/-- f(e, ..) -/
theorem pe_g (F : FnG X.prog X.w X.K X.mg X.base CX k f fd ps sp) (gd : Gd X.A) (hr : Room k X.A) (hg : Gl X x) (hm : X.mg x = some (.ref f)) (hk : PySem.W.keepIn X.K (.ref f) = true) (hb : Binds X.K fd ps ds) (hd : Vals dvs ds) (hx : Passes CX X E)
    (ha : PA X (e :: es) t) (hdb : (x == ("__debug__" : Str)) = false := by decide) (he : starEach (e :: es) X.env = (false, eval e X.env) :: starEach es X.env := by rfl) (hpl : (backTo pos (starEach es X.env)).any (·.1) = false := by rfl) :
    PE X (.Call (.Name x p) (e :: es) [] pos) (tCall sp dvs E t) := by
  constructor
  intro pins s σ H Q I h
  apply wpAny_Call_Name_kw
  refine ld_glob I hg hm (PySem.W.callWith_K (h₀ := X.base) I.ok.mod.kin hk (thn (ha.run pos pins s σ H _ I h) ?_) he hpl) hdb
  rintro us s1 ⟨vs, H1, I1, r, q⟩
  have r2 : Vals (vs ++ dvs) (us ++ ds) := r.append hd
  exact ⟨I1.kIn, runG F gd hr hx I1 (hb s1 us I1.kIn (r2.length.symm.trans (F.arity _ _ _ _ q))) r2 q⟩
/-- f() -/
theorem pe_g0 (F : FnG X.prog X.w X.K X.mg X.base CX k f fd ps sp) (gd : Gd X.A) (hr : Room k X.A) (hg : Gl X x) (hm : X.mg x = some (.ref f)) (hk : PySem.W.keepIn X.K (.ref f) = true) (hb : Binds X.K fd ps ds) (hd : Vals dvs ds) (hx : Passes CX X E)
    (hdb : (x == ("__debug__" : Str)) = false := by decide) : PE X (.Call (.Name x p) [] [] pos) (tCall sp dvs E tNil) := by
  constructor
  intro pins s σ H Q I h
  apply wpAny_Call_Name_kw
  refine ld_glob I hg hm (PySem.W.callWith_K0 I.kIn hk ?_) hdb
  have r2 : Vals ([] ++ dvs) ([] ++ ds) := Vals.append .nil hd
  exact runG (us0 := []) F gd hr hx I (hb s [] I.kIn (r2.length.symm.trans (F.arity _ _ _ _ h))) r2 h
/-- how a call by keywords alone binds: the keywords ks, brought into the parameters' order by g (by gV the values) -/
structure KwB (fd : FuncData) (ps ks : List Str) (g : List Value → List Value) (gV : List V → List V) : Prop where
  to : ∀ (s : Shared) (ws : List Value), ws.length = ks.length → BindsTo s fd ⟨[], ks.zip ws⟩ (ps.zip (g ws))
  rel : ∀ {zs : List V} {ws : List Value}, zs.length = ks.length → Vals zs ws → Vals (gV zs) (g ws)
def tCallW (sp : Sp) (n : Nat) (gV : List V → List V) (E : XK) (tk : TA) : TE := fun σ H Q => tk σ H fun zs H1 => zs.length = n ∧ sp (gV zs) H1 Q E
/-- f(k = v, ..) -/
theorem pe_gk {g : List Value → List Value} {gV : List V → List V} (F : FnG X.prog X.w X.K X.mg X.base CX k f fd ps sp) (gd : Gd X.A) (hr : Room k X.A) (hg : Gl X x) (hm : X.mg x = some (.ref f)) (hk : PySem.W.keepIn X.K (.ref f) = true) (hb : KwB fd ps ks g gV) (hx : Passes CX X E)
    (hkw : PK X kws tk) (hall : (backToKw pos (keywordEach kws X.env)).all (·.1.isSome) = true := by rfl) (hks : (backToKw pos (keywordEach kws X.env)).filterMap (·.1) = ks := by rfl) (hdb : (x == ("__debug__" : Str)) = false := by decide)
    (hpl : ((backTo pos (starEach [] X.env)).any (·.1) || (backToKw pos (keywordEach kws X.env)).any (·.1.isNone)) = false := by rfl) :
    PE X (.Call (.Name x p) [] kws pos) (tCallW sp ks.length gV E tk) := by
  constructor
  intro pins s σ H Q I h
  apply wpAny_Call_Name_kw
  refine ld_glob I hg hm (PySem.W.callWith_KW0 (h₀ := X.base) I.ok.mod.kin hk hall (thn (hkw.run pos pins s σ H _ I h) ?_) hpl) hdb
  rintro ws s1 ⟨zs, H1, I1, rz, l, q⟩
  rw [hks]
  exact ⟨I1.kIn, runG (us0 := []) F gd hr hx I1 (hb.to s1 ws (rz.length.symm.trans l)) (hb.rel l rz) q⟩
end

/-! ### operators -/
def CPowW (i j : Int) : Prop := 0 ≤ j ∧ (Builtin.Int.intBits i : Int) * j ≤ 2 ^ 27
theorem powW_ok {i : Int} {n j : Nat} (h : i.natAbs < 2 ^ n) (hj : n * j ≤ 134217728) : CPowW i (j : Int) := by
  have b := PyProof.Rows.intBits_le h
  refine ⟨Int.natCast_nonneg _, ?_⟩
  have e : (2 : Int) ^ 27 = 134217728 := by decide
  rw [e, ← Int.natCast_mul]
  have c : Builtin.Int.intBits i * j ≤ n * j := Nat.mul_le_mul_right j b
  omega
section
variable {X : Cx}
theorem op_powW : OpR X (binaryOp .Pow) (rI CPowW fun i j => .int (i ^ j.toNat)) := opI fun _ _ _ _ _ _ _ hc q => pow_int hc.1 hc.2 q
end
/-! ### data that may be shown and compared -/
mutual
/-- data without dicts, of numbers of at most 38 figures and plain texts -/
def okD : PyData → Bool
  | .none | .bool _ => true
  | .int i => decide (i.natAbs < 10 ^ 38)
  | .str x => PyData.strOk x && x.cps.toList.all fun c => decide (c < 16 ^ 8)
  | .list xs | .tuple xs => okDs xs
  | .dict _ => false
def okDs : List PyData → Bool
  | [] => true
  | x :: xs => okD x && okDs xs
end
theorem int38 {i : Int} (h : i.natAbs < 10 ^ 38) : i.natAbs.log2 < 1920 :=
  Nat.lt_of_lt_of_le (PySem.Flt.log2_lt_of (k := 127) (by decide) (Nat.lt_of_lt_of_le h (by decide +kernel))) (by decide)
theorem short38 {i : Int} (h : i.natAbs < 10 ^ 38) : (PyData.shown (.int i)).length ≤ 40 := by
  have e := int_text_length_le10 (k := 38) (by decide) h
  show (Str.ofString (toString i)).length ≤ 40
  rw [PySem.ofString_length]
  omega
mutual
theorem okD_all : ∀ d : PyData, okD d = true → d.canLay0 = true ∧ d.showable = true ∧ d.hasDict = false ∧ d.leavesShort 40 = true
  | .none, _ => ⟨by simp only [PyData.canLay0], by simp only [PyData.showable], by simp only [PyData.hasDict], by simp only [PyData.leavesShort]⟩
  | .bool _, _ => ⟨by simp only [PyData.canLay0], by simp only [PyData.showable], by simp only [PyData.hasDict], by simp only [PyData.leavesShort]⟩
  | .int i, h => by
    have h' : i.natAbs < 10 ^ 38 := by simpa only [okD, decide_eq_true_eq] using h
    exact ⟨by simp only [PyData.canLay0], by simp only [PyData.showable, decide_eq_true_eq]; exact int38 h', by simp only [PyData.hasDict], by simp only [PyData.leavesShort, decide_eq_true_eq]; exact short38 h'⟩
  | .str x, h => by
    have h' : PyData.strOk x = true ∧ (x.cps.toList.all fun c => decide (c < 16 ^ 8)) = true := by simpa only [okD, Bool.and_eq_true] using h
    exact ⟨by simp only [PyData.canLay0]; exact h'.1, by simp only [PyData.showable], by simp only [PyData.hasDict], by simp only [PyData.leavesShort]; exact h'.2⟩
  | .list xs, h => by
    obtain ⟨a, b, c, d⟩ := okDs_all xs (by simpa only [okD] using h)
    exact ⟨by simp only [PyData.canLay0]; exact a, by simp only [PyData.showable]; exact b, by simp only [PyData.hasDict]; exact c, by simp only [PyData.leavesShort]; exact d⟩
  | .tuple xs, h => by
    obtain ⟨a, b, c, d⟩ := okDs_all xs (by simpa only [okD] using h)
    exact ⟨by simp only [PyData.canLay0]; exact a, by simp only [PyData.showable]; exact b, by simp only [PyData.hasDict]; exact c, by simp only [PyData.leavesShort]; exact d⟩
  | .dict _, h => by simp only [okD] at h; cases h
theorem okDs_all : ∀ ds : List PyData, okDs ds = true → PyData.canLayAll0 ds = true ∧ PyData.showableAll ds = true ∧ PyData.hasDictAll ds = false ∧ PyData.leavesShortAll 40 ds = true
  | [], _ => ⟨by simp only [PyData.canLayAll0], by simp only [PyData.showableAll], by simp only [PyData.hasDictAll], by simp only [PyData.leavesShortAll]⟩
  | x :: xs, h => by
    have h' : okD x = true ∧ okDs xs = true := by simpa only [okDs, Bool.and_eq_true] using h
    obtain ⟨a, b, c, d⟩ := okD_all x h'.1
    obtain ⟨a2, b2, c2, d2⟩ := okDs_all xs h'.2
    exact ⟨by simp only [PyData.canLayAll0, a, a2, Bool.and_self], by simp only [PyData.showableAll, b, b2, Bool.and_self], by simp only [PyData.hasDictAll, c, c2, Bool.or_self], by simp only [PyData.leavesShortAll, d, d2, Bool.and_self]⟩
end
structure Nice (d : PyData) : Prop where
  ok : okD d = true
  deep : d.depth ≤ 60
  small : d.bulk ≤ 262144
theorem Nice.shaped {d : PyData} (n : Nice d) : SeqAt.shaped d = true := by
  show (d.canLay0 && decide (d.depth ≤ 64)) = true
  rw [(okD_all d n.ok).1, decide_eq_true (show d.depth ≤ 64 by have := n.deep; omega)]
  rfl
theorem Nice.fits {d : PyData} (n : Nice d) : d.shown.length ≤ sizeLine := by
  have h := PyData.shown_le_bulk 40 (by decide) d (okD_all d n.ok).2.2.2
  have k := n.small
  rw [sizeLine_eq]
  omega
theorem Nice.refl {d : PyData} (n : Nice d) : PyData.eqv d d = true := SeqAt.eqv_refl d (okD_all d n.ok).1
theorem Nice.int {i : Int} (h : i.natAbs < 10 ^ 38) : Nice (.int i) := ⟨by simp only [okD, decide_eq_true_eq]; exact h, by simp only [PyData.depth]; omega, by simp only [PyData.bulk]; omega⟩
theorem okDs_map {α : Type} (f : α → PyData) : ∀ l : List α, (∀ x ∈ l, okD (f x) = true) → okDs (l.map f) = true
  | [], _ => by simp only [List.map_nil, okDs]
  | x :: r, h => by
    simp only [List.map_cons, okDs, Bool.and_eq_true]
    exact ⟨h x (List.mem_cons_self ..), okDs_map f r fun y hy => h y (List.mem_cons_of_mem _ hy)⟩
theorem depthAll_le {n : Nat} : ∀ l : List PyData, (∀ x ∈ l, x.depth ≤ n) → PyData.depthAll l ≤ n
  | [], _ => by simp only [PyData.depthAll]; omega
  | x :: r, h => by
    have h1 := h x (List.mem_cons_self ..)
    have h2 := depthAll_le r fun y hy => h y (List.mem_cons_of_mem _ hy)
    simp only [PyData.depthAll]
    omega
theorem bulkAll_le {n : Nat} : ∀ l : List PyData, (∀ x ∈ l, x.bulk ≤ n) → PyData.bulkAll l ≤ l.length * (n + 1)
  | [], _ => by simp only [PyData.bulkAll]; omega
  | x :: r, h => by
    have h1 := h x (List.mem_cons_self ..)
    have h2 := bulkAll_le r fun y hy => h y (List.mem_cons_of_mem _ hy)
    simp only [PyData.bulkAll, List.length_cons]
    rw [Nat.succ_mul]
    omega
theorem Nice.listInt {l : List Int} (h : ∀ x ∈ l, x.natAbs < 10 ^ 38) (hl : l.length ≤ 100000) : Nice (.list (l.map .int)) := by
  refine ⟨?_, ?_, ?_⟩
  · simp only [okD]
    exact okDs_map _ l fun x hx => (Nice.int (h x hx)).ok
  · have := depthAll_le (n := 0) (l.map PyData.int) fun x hx => by
      obtain ⟨i, _, rfl⟩ := List.mem_map.mp hx
      simp only [PyData.depth]; omega
    simp only [PyData.depth]; omega
  · have := bulkAll_le (n := 0) (l.map PyData.int) fun x hx => by
      obtain ⟨i, _, rfl⟩ := List.mem_map.mp hx
      simp only [PyData.bulk]; omega
    simp only [PyData.bulk]
    rw [List.length_map] at this
    omega
theorem dps_int {K : PySem.W.Frag} {H : Hp} : ∀ l : List Int, DpAll K H (l.map V.int) (l.map PyData.int)
  | [] => .nil
  | x :: r => .cons (.int x) (dps_int r)
theorem dp_int {K : PySem.W.Frag} {H : Hp} {a : Addr} {l : List Int} (h : SqL K H a (l.map V.int)) : Dp K H (.ref a) (.list (l.map PyData.int)) := .lst h (dps_int l)
section
variable {X : Cx}
/-- repr of data: its text -/
def rRepr (K : PySem.W.Frag) : List V → Hp → VK → Prop := fun xs H Q => ∃ (x : V) (d : PyData), xs = [x] ∧ Dp K H x d ∧ Nice d ∧ Q (.str d.shown) H
theorem call_reprD (gd : Gd X.A) (hu : X.A.units + 64 < cLine) : CallR X (.builtin "repr") (rRepr X.K) := by
  intro pins s σ H xs us Q I r h
  obtain ⟨x, d, rfl, dp, nice, q⟩ := h
  obtain ⟨_, sh, nd, _⟩ := okD_all d nice.ok
  have sz := nice.fits
  have dep := nice.deep
  obtain ⟨u, rfl, ru⟩ := vals1 r
  obtain ⟨as, rd⟩ := Dp.reads I d x u dp ru
  have hsm : d.hasDict = true → sysModules ∉ as := fun e => by rw [nd] at e; cases e
  cases dp with
  | non => cases (show u = Value.none from ru); exact PySem.P.repr_of_none ⟨.str _, H, I.tok _, ⟨_, rfl⟩, q⟩
  | bl b => cases (show u = Value.bool b from ru); exact PySem.P.repr_of_bool ⟨.str _, H, I.tok _, ⟨_, rfl⟩, by simpa only [PyData.shown] using q⟩
  | int i => obtain ⟨t, rfl⟩ := ru; exact PySem.P.repr_of_int (by simpa only [PyData.showable, decide_eq_true_eq] using sh) ⟨.str _, H, I.tok _, ⟨_, rfl⟩, by simpa only [PyData.shown] using q⟩
  | str z => obtain ⟨t, rfl⟩ := ru; exact PySem.P.repr_of_str ⟨.str _, H, I.tok _, ⟨_, rfl⟩, by simpa only [PyData.shown] using q⟩ (by simpa only [PyData.shown] using sz)
  | @lst a xs ds e1 e2 =>
    cases (show u = Value.ref a from ru)
    exact repr_of_reads' rd sh hsm gd (by omega) (fun _ _ e => e) (fun h' u tk hk => ⟨.str _, H, I.kept hk, ⟨_, rfl⟩, q⟩) sz
  | @tup a xs ds e1 e2 =>
    cases (show u = Value.ref a from ru)
    exact repr_of_reads' rd sh hsm gd (by omega) (fun _ _ e => e) (fun h' u tk hk => ⟨.str _, H, I.kept hk, ⟨_, rfl⟩, q⟩) sz
end
/-! ### heaps -/
/-- all but what stands at a is as it was -/
def SameX (a : Addr) (H H' : Hp) : Prop := ∀ b o, b ≠ a → H b = some o → H' b = some o
theorem SameX.refl (a : Addr) (H : Hp) : SameX a H H := fun _ _ _ h => h
theorem SameX.of {a : Addr} {H H' : Hp} (e : Same H H') : SameX a H H' := fun b o _ h => e b o h
theorem SameX.trans {a : Addr} {H H1 H2 : Hp} (e : SameX a H H1) (f : SameX a H1 H2) : SameX a H H2 := fun b o n h => f b o n (e b o n h)
theorem SameX.upd {a : Addr} {H : Hp} {o : HO} : SameX a H (upd H a o) := fun b x n h => by rw [upd_ne n]; exact h
/-- what was there before a was made -/
theorem SameX.same {a : Addr} {H0 H H' : Hp} (e : SameX a H H') (s : Same H0 H) (n : H0 a = none) : Same H0 H' := fun b o h => e b o (ne_of_none h n) (s b o h)
theorem same_new' {H : Hp} {p : Addr} {o : HO} (h : H p = none) : Same H (upd H p o) := fun b x e => by
  rw [upd_ne (ne_of_none e h)]
  exact e
/-! ### tests -/
/-- a comprehension without a test keeps each item -/
theorem yes_if {σ : L2.St} {H : Hp} {A B : Hp → Prop} (h : A H) : tYes σ H fun b H3 => if b = true then A H3 else B H3 := by
  show if true = true then A H else B H
  exact iteT h

/-! ### the law's own call -/
section
variable {P : Program} {w : World} {K : PySem.W.Frag} {mg mb : Str → Option Value} {CX : CXT} {k : Nat} {fa a : Addr} {fd : FuncData} {x : Str} {sp : Sp} {st : Shared} {its : List Value} {ns : List Int}
/-- the call over an abstract heap that tracks nothing but (perhaps) the script -/
theorem lawG_at {H : Hp} (inK : K.In st.heap) (globals : st.heap.Ns mainGlobals mg) (blt : st.heap.Ns builtinsNs mb) (bltIs : ∀ x : Str, x ≠ "__name__" → mb x = bootBuiltins x) (noLim : st.heap.NoLimit) (noGen : st.gens = #[])
    (lst : st.heap.get? a = some { cls := .type "list", data := .seq its.toArray }) (room : Room k callerA)
    (F : ∀ base : Heap, K.In base → base.Ns mainGlobals mg → FnG P w K mg base CX k fa fd [x] sp) (binds : ∀ (s : Shared) (u : Value), BindsTo s fd ⟨[u], []⟩ [(x, u)])
    (want : sp [.ref a] H (fun v _ => v = .bl true) fun _ _ _ => False) (noEx : ∀ e s', CX [] H st (fun _ _ _ => False) e s' → False)
    (only : Only H) (held : HOk P w H st.heap) (atA : ∀ b, H b ≠ none → b = a) (notK : H a ≠ none → K.lookup a = none) :
    codeAny (model P w) callerA (.call (.ref fa) ⟨[.ref a], []⟩) (fun r s' => r = .ok (.ret (.bool true)) ∧ OldK st.heap s'.heap ∧ s'.os = st.os ∧ AllBare s'.gens) st := by
  have dicts : ∀ {b : Addr} {m : Str → Option Value}, st.heap.Ns b m → (hidT st.heap H).Ns b m := by
    rintro b m ⟨o, es, ep, q, d, rest⟩
    refine ⟨o, es, ep, hidT_get q ?_, d, rest⟩
    cases z : H b with
    | none => rfl
    | some u =>
      have eb := atA b (by rw [z]; exact Option.some_ne_none u)
      rw [eb, lst] at q
      have eo := Option.some.inj q
      rw [← eo] at d
      exact (nomatch (show Data.seq its.toArray _ = Data.dict es ep from d))
  have baseK : K.In (hidT st.heap H) := by
    intro b o q
    refine hidT_get (inK b o q) ?_
    cases z : H b with
    | none => rfl
    | some u =>
      have ne : H b ≠ none := by rw [z]; exact Option.some_ne_none u
      have eb := atA b ne
      subst eb
      rw [notK ne] at q
      exact nomatch q
  obtain ⟨mc, l1, l2⟩ := noLim
  have env : Env0 P w K mg (hidT st.heap H) callerA [] st H :=
    { frames := rfl, mod := { kin := baseK, glob := dicts globals, blt := ⟨mb, dicts blt, bltIs⟩, nolimit := ⟨mc, dicts l1, l2⟩ }, bs := fun b o q => of_hidT q,
      bsz := Nat.le_of_eq (hidT_size _ _), funs := trivial, frf := fun b z => (nomatch z), hok := held, bare := .of_eq noGen }
  refine codeAny_mono ((F _ baseK (dicts globals)).go callerA [] st H ⟨[.ref a], []⟩ [.ref a] [.ref a] _ _ rfl room env (binds st (.ref a)) (.cons rfl .nil) want) ?_
  intro r s' q
  match r, q with
  | .error e, q => exact (noEx e s' q).elim
  | .ok .next, q => exact (show False from q).elim
  | .ok .brk, q => exact (show False from q).elim
  | .ok .cont, q => exact (show False from q).elim
  | .ok (.ret u), ⟨v, H', eos, bare, un, held', rv, ev⟩ =>
    have ev' : v = .bl true := ev
    subst ev'
    cases (show u = Value.bool true from rv)
    refine ⟨rfl, OldK.of_keep ?_, eos, bare⟩
    intro b o q
    cases z : H b with
    | none => exact un.keep b o q z (fun y => nomatch y) (fun y => nomatch y)
    | some u =>
      obtain y | ⟨ob, xs, y⟩ := only b
      · rw [z] at y
        exact nomatch y
      · have q1 := (held b _ y).1
        have q2 := (held' b _ (un.frzs b ob _ y)).1
        rw [q] at q1
        rw [Option.some.inj q1]
        exact q2
theorem lawG (inK : K.In st.heap) (globals : st.heap.Ns mainGlobals mg) (blt : st.heap.Ns builtinsNs mb) (bltIs : ∀ x : Str, x ≠ "__name__" → mb x = bootBuiltins x) (noLim : st.heap.NoLimit) (noGen : st.gens = #[])
    (lst : st.heap.get? a = some { cls := .type "list", data := .seq its.toArray }) (areInts : IntsAre its ns) (len : ns.length ≤ sizeLine) (room : Room k callerA)
    (F : ∀ base : Heap, K.In base → base.Ns mainGlobals mg → FnG P w K mg base CX k fa fd [x] sp) (binds : ∀ (s : Shared) (u : Value), BindsTo s fd ⟨[u], []⟩ [(x, u)])
    (want : ∀ H : Hp, Only H → SqL K H a (ns.map V.int) → sp [.ref a] H (fun v _ => v = .bl true) fun _ _ _ => False) (noEx : ∀ H e s', CX [] H st (fun _ _ _ => False) e s' → False) :
    codeAny (model P w) callerA (.call (.ref fa) ⟨[.ref a], []⟩) (fun r s' => r = .ok (.ret (.bool true)) ∧ OldK st.heap s'.heap ∧ s'.os = st.os ∧ AllBare s'.gens) st := by
  have rel := vals_ints areInts
  cases z : K.lookup a with
  | some o =>
    have q := inK a o z
    rw [lst] at q
    have eo := Option.some.inj q
    subst eo
    have only : Only (fun _ => none) := fun _ => Or.inl rfl
    have sq : SqL K (fun _ => none) a (ns.map V.int) := Or.inr ⟨_, its.toArray, _, z, rfl, rfl, rfl, by rw [List.size_toArray, areInts.length]; exact len, rel⟩
    exact lawG_at inK globals blt bltIs noLim noGen lst room F binds (want _ only sq) (noEx _) only (fun b u y => nomatch (show none = some u from y)) (fun b y => (y rfl).elim) (fun y => (y rfl).elim)
  | none =>
    let H : Hp := upd (fun _ => none) a (.frz { cls := .type "list", data := .seq its.toArray } (.lst (ns.map V.int)))
    have at1 : H a = some (.frz { cls := .type "list", data := .seq its.toArray } (.lst (ns.map V.int))) := upd_same
    have off : ∀ b, b ≠ a → H b = none := fun b hb => upd_ne hb
    have only : Only H := by
      intro b
      by_cases hb : b = a
      · rw [hb]
        exact Or.inr ⟨_, _, at1⟩
      · exact Or.inl (off b hb)
    have only1 : ∀ b, H b ≠ none → b = a := by
      intro b y
      by_cases hb : b = a
      · exact hb
      · exact (y (off b hb)).elim
    have held : HOk P w H st.heap := by
      intro b u y
      have hb : b = a := only1 b (by rw [y]; exact Option.some_ne_none u)
      subst hb
      rw [at1] at y
      rw [← Option.some.inj y]
      exact ⟨lst, by rw [List.length_map]; exact len, its, _, rel, lst⟩
    exact lawG_at inK globals blt bltIs noLim noGen lst room F binds (want _ only (Or.inl (Or.inr ⟨_, at1⟩))) (noEx _) only held only1 fun _ => z
end
/-- a law: what the head leaves, from the law's promise -/
theorem walkG {l : PySem.W.OpenLaw} {n k : Nat} {q : Program} {loose : List Str} {XP : (Str → Option Value) → Heap → Prop} {YP : World → Heap → Prop} {d : DefRec} {x : Str}
    (most : l.most = some n) (small : n ≤ sizeLine) (plain : d.params.defaults = []) (room : Room k callerA)
    (F : ∀ (w : World) (mg : Str → Option Value) (fa : Addr) (h : Heap), YP w h → h.Ns mainGlobals mg → mg d.name = some (.ref fa) →
      ∃ (K : PySem.W.Frag) (fd : FuncData) (sp : Sp), K.In h ∧ (∀ (s : Shared) (u : Value), BindsTo s fd ⟨[u], []⟩ [(x, u)]) ∧
        (∀ (H : Hp) (a : Addr) (ns : List Int), ns.length ≤ n → Only H → SqL K H a (ns.map V.int) → sp [.ref a] H (fun v _ => v = .bl true) fun _ _ _ => False) ∧
        ∀ base : Heap, K.In base → base.Ns mainGlobals mg → FnG l.prog w K mg base CX0 k fa fd [x] sp) :
    PySem.W.WalkO q loose XP YP l.row.toRowW d [] (fun f vs => PySem.call f vs) := by
  apply Att.attach_call most plain
  intro w s0 s1 mg mb fa o pm cd doc a vs ns G Y _ _ _ gl lst areInts len gens
  obtain ⟨K, fd, sp, inK, binds, want, run⟩ := F w mg fa _ Y G.T.g gl
  exact lawG inK G.T.g G.T.b G.T.builtins G.T.nolimit gens lst areInts (Nat.le_trans len small) room run binds (fun H o s => want H a ns len o s) fun _ _ _ y => y.elim
end Hw

set_option Elab.async false
set_option linter.all false
set_option maxRecDepth 100000
set_option maxHeartbeats 4000000
/-! data that stands in tracked lists, tuples, dicts -/
namespace Hw
open PySem PySem.Spec PyProof.Rows L2
mutual
inductive Dt (H : Hp) : V → PyData → Prop
  | non : Dt H .non .none
  | bl (b : Bool) : Dt H (.bl b) (.bool b)
  | int (i : Int) : Dt H (.int i) (.int i)
  | str (x : Str) : Dt H (.str x) (.str x)
  | lst {a : Addr} {xs : List V} {ds : List PyData} : H a = some (.lst xs) → DtAll H xs ds → Dt H (.ref a) (.list ds)
  | tup {a : Addr} {xs : List V} {ds : List PyData} : H a = some (.tup xs) → DtAll H xs ds → Dt H (.ref a) (.tuple ds)
  | dic {a : Addr} (kvs : List (Str × Int)) : H a = some (.dK (kvs.map fun p => (.inr p.1, .int p.2))) → Dt H (.ref a) (.dict (kvs.map fun p => (.str p.1, .int p.2)))
inductive DtAll (H : Hp) : List V → List PyData → Prop
  | nil : DtAll H [] []
  | cons {v : V} {vs : List V} {d : PyData} {ds : List PyData} : Dt H v d → DtAll H vs ds → DtAll H (v :: vs) (d :: ds)
end
mutual
theorem Dt.same {H H' : Hp} (e : Same H H') : ∀ (d : PyData) (v : V), Dt H v d → Dt H' v d
  | .none, _, h => by cases h; exact .non
  | .bool b, _, h => by cases h; exact .bl b
  | .int i, _, h => by cases h; exact .int i
  | .str x, _, h => by cases h; exact .str x
  | .list ds, _, h => by
    cases h with
    | lst hs ha => exact .lst (e _ _ hs) (DtAll.same e ds _ ha)
  | .tuple ds, _, h => by
    cases h with
    | tup hs ha => exact .tup (e _ _ hs) (DtAll.same e ds _ ha)
  | .dict ds, _, h => by
    cases h with
    | dic kvs hs => exact .dic kvs (e _ _ hs)
theorem DtAll.same {H H' : Hp} (e : Same H H') : ∀ (ds : List PyData) (vs : List V), DtAll H vs ds → DtAll H' vs ds
  | [], _, h => by cases h; exact .nil
  | d :: ds, _, h => by
    cases h with
    | cons h1 h2 => exact .cons (Dt.same e d _ h1) (DtAll.same e ds _ h2)
end
theorem Dt.to {H H' : Hp} {v : V} {d : PyData} (h : Dt H v d) (e : Same H H') : Dt H' v d := Dt.same e d v h
theorem DtAll.to {H H' : Hp} {v : List V} {d : List PyData} (h : DtAll H v d) (e : Same H H') : DtAll H' v d := DtAll.same e d v h
/-- a write at a place that held nothing of the data -/
theorem Dt.toX {a : Addr} {H H' : Hp} (e : SameX a H H') (H0 : Hp) (s : Same H0 H) (n : H0 a = none) {v : V} {d : PyData} (h : Dt H0 v d) : Dt H' v d := h.to (e.same s n)
theorem DtAll.len {H : Hp} : ∀ {vs : List V} {ds : List PyData}, DtAll H vs ds → vs.length = ds.length
  | _, _, .nil => rfl
  | _, _, .cons _ r => by rw [List.length_cons, List.length_cons, r.len]
theorem DtAll.get {H : Hp} : ∀ {vs : List V} {ds : List PyData}, DtAll H vs ds → ∀ (i : Nat) (v : V), vs[i]? = some v → ∃ d, ds[i]? = some d ∧ Dt H v d
  | _, _, .nil, i, v, h => by simp at h
  | _, _, .cons h1 r, 0, v, h => by
    have e := Option.some.inj (show some _ = some v from h)
    subst e
    exact ⟨_, rfl, h1⟩
  | _, _, .cons _ r, i + 1, v, h => r.get i v h
theorem DtAll.app {H : Hp} : ∀ {vs : List V} {ds : List PyData} {ws : List V} {es : List PyData}, DtAll H vs ds → DtAll H ws es → DtAll H (vs ++ ws) (ds ++ es)
  | _, _, _, _, .nil, k => k
  | _, _, _, _, .cons h r, k => .cons h (r.app k)
theorem DtAll.one {H : Hp} {v : V} {d : PyData} (h : Dt H v d) : DtAll H [v] [d] := .cons h .nil
theorem DtAll.ints {H : Hp} : ∀ l : List Int, DtAll H (l.map V.int) (l.map PyData.int)
  | [] => .nil
  | x :: r => .cons (.int x) (DtAll.ints r)
theorem DtAll.bls {H : Hp} : ∀ l : List Bool, DtAll H (l.map V.bl) (l.map PyData.bool)
  | [] => .nil
  | x :: r => .cons (.bl x) (DtAll.bls r)
theorem Dt.ints {H : Hp} {a : Addr} {l : List Int} (h : H a = some (.lst (l.map V.int))) : Dt H (.ref a) (.list (l.map PyData.int)) := .lst h (DtAll.ints l)
theorem readsKV {h : Heap} {P : Program} {w : World} : ∀ (kvs : List (Str × Int)) (vs : List (Key × Value)) (es : List DictEntry), KV (kvs.map fun p => ((.inr p.1 : Key), V.int p.2)) vs → PySem.Pairs (mixKind P w) es vs →
    ReadsAll h (es.map (·.key)) ((kvs.map fun p => (PyData.str p.1, PyData.int p.2)).map (·.1)) [] ∧ ReadsAll h (es.map (·.val)) ((kvs.map fun p => (PyData.str p.1, PyData.int p.2)).map (·.2)) []
  | [], _, _, .nil, .nil => ⟨.nil, .nil⟩
  | p :: r, _, _, .cons h1 t1, .cons f1 f2 t2 => by
    obtain ⟨a, b⟩ := readsKV (h := h) r _ _ t1 t2
    obtain ⟨e1, e2⟩ := h1
    skip
    skip
    obtain ⟨t, ht⟩ := e2
    constructor
    · refine ReadsAll.cons (as := []) (bs := []) ?_ a
      rw [← e1] at f1
      have f1 : keyIs (.inr p.1) _ = true := f1
      rcases keyIs_shape f1 with ⟨i, t, z, q⟩ | ⟨x, t, z, q⟩
      · cases z
      · dsimp only
        rw [q]
        cases z
        exact .str _ _
    · refine ReadsAll.cons (as := []) (bs := []) ?_ b
      dsimp only
      rw [f2, ht]
      exact .int _ _
section
variable {X : Cx} {pins : List (Addr × Obj)} {σ : L2.St} {H : Hp} {s : Shared}
mutual
theorem Dt.reads (I : Inv X pins σ H s) : ∀ (d : PyData) (v : V) (u : Value), Dt H v d → RelV v u → ∃ as, Reads s.heap u d as ∧ ((∃ kvs, d = .dict kvs) → sysModules ∉ as)
  | .none, _, _, h, r => by
    cases h
    cases r
    exact ⟨_, Reads.none, fun ⟨_, z⟩ => nomatch z⟩
  | .bool b, _, _, h, r => by
    cases h
    cases r
    exact ⟨_, Reads.bool b, fun ⟨_, z⟩ => nomatch z⟩
  | .int i, _, _, h, r => by
    cases h
    obtain ⟨t, rfl⟩ := r
    exact ⟨_, Reads.int i t, fun ⟨_, z⟩ => nomatch z⟩
  | .str x, _, _, h, r => by
    cases h
    obtain ⟨t, rfl⟩ := r
    exact ⟨_, Reads.str x t, fun ⟨_, z⟩ => nomatch z⟩
  | .list ds, _, _, h, r => by
    cases h with
    | lst hs ha =>
      cases r
      obtain ⟨its, rv, ⟨o, n, ho, hc, _, hd⟩, _⟩ := I.list (X := X) (show SqL X.K H _ _ from .inl (.inl hs))
      obtain ⟨as, hr⟩ := Dt.readsAll I ds _ its ha rv
      exact ⟨_, Reads.list ho hc hd hr, fun ⟨_, z⟩ => nomatch z⟩
  | .tuple ds, _, _, h, r => by
    cases h with
    | tup hs ha =>
      cases r
      obtain ⟨its, rv, ⟨o, ho, hc, n, hd⟩, _⟩ := I.tuple (X := X) (show SqT X.K H _ _ from .inl (.inl hs))
      obtain ⟨as, hr⟩ := Dt.readsAll I ds _ its ha rv
      exact ⟨_, Reads.tuple ho hc hd hr, fun ⟨_, z⟩ => nomatch z⟩
  | .dict ds, _, _, h, r => by
    cases h with
    | dic kvs hs =>
      cases r
      obtain ⟨_, ns, vs, kv, o, es, ep, ho, hx, hd, _, pr, _⟩ := dk_of I.hok hs
      obtain ⟨a, b⟩ := readsKV (h := s.heap) kvs vs es.toList kv pr
      refine ⟨_, Reads.dict ho hx.1 hd a b, fun _ z => ?_⟩
      simp only [List.append_nil, List.mem_singleton] at z
      rw [← z] at ns
      simp at ns
theorem Dt.readsAll (I : Inv X pins σ H s) : ∀ (ds : List PyData) (vs : List V) (us : List Value), DtAll H vs ds → Vals vs us → ∃ as, ReadsAll s.heap us ds as
  | [], _, _, h, r => by
    cases h
    cases r
    exact ⟨_, ReadsAll.nil⟩
  | d :: ds, _, _, h, r => by
    cases h with
    | cons h1 h2 =>
      cases r with
      | cons r1 r2 =>
        obtain ⟨as, q1, _⟩ := Dt.reads I d _ _ h1 r1
        obtain ⟨bs, q2⟩ := Dt.readsAll I ds _ _ h2 r2
        exact ⟨_, ReadsAll.cons q1 q2⟩
end
end
section
variable {X : Cx}
def rEqT : R2 := fun x y H Q => ∃ d e, Dt H x d ∧ Dt H y e ∧ SeqAt.shaped d = true ∧ SeqAt.shaped e = true ∧ Q (.bl (PyData.eqv d e)) H
def rNeT : R2 := fun x y H Q => ∃ d e, Dt H x d ∧ Dt H y e ∧ SeqAt.shaped d = true ∧ SeqAt.shaped e = true ∧ Q (.bl (!PyData.eqv d e)) H
theorem op_eqT (hu : X.A.units + 64 < cLine) : OpR X (compareOp .Eq) rEqT := by
  intro pins s σ H x y v u Q I rx ry h
  obtain ⟨d, e, hd, he, sd, se, q⟩ := h
  obtain ⟨as, r1, _⟩ := Dt.reads I d x v hd rx
  obtain ⟨bs, r2, _⟩ := Dt.reads I e y u he ry
  exact SeqAt.compareEq_shaped r1 r2 sd se hu ⟨.bl _, H, I, rfl, q⟩
theorem op_neT (hu : X.A.units + 64 < cLine) : OpR X (compareOp .NotEq) rNeT := by
  intro pins s σ H x y v u Q I rx ry h
  obtain ⟨d, e, hd, he, sd, se, q⟩ := h
  obtain ⟨as, r1, _⟩ := Dt.reads I d x v hd rx
  obtain ⟨bs, r2, _⟩ := Dt.reads I e y u he ry
  exact SeqAt.compareNe_shaped r1 r2 sd se hu ⟨.bl _, H, I, rfl, q⟩
/-- data whose repr can be told -/
structure Shows (d : PyData) : Prop where
  show_ : d.showable = true
  fits : d.shown.length ≤ sizeLine
  deep : d.depth ≤ 60
  top : d.hasDict = true → ∃ kvs, d = .dict kvs
theorem Nice.shows {d : PyData} (n : Nice d) : Shows d := ⟨(okD_all d n.ok).2.1, n.fits, n.deep, fun z => by rw [(okD_all d n.ok).2.2.1] at z; cases z⟩
theorem shows_empty : Shows (.dict []) := ⟨by decide +kernel, by rw [sizeLine_eq]; decide +kernel, by decide +kernel, fun _ => ⟨_, rfl⟩⟩
/-- repr of data: its text -/
def rReprT : List V → Hp → VK → Prop := fun xs H Q => ∃ (x : V) (d : PyData), xs = [x] ∧ Dt H x d ∧ Shows d ∧ Q (.str d.shown) H
theorem call_reprT (gd : Gd X.A) (hu : X.A.units + 64 < cLine) : CallR X (.builtin "repr") rReprT := by
  intro pins s σ H xs us Q I r h
  obtain ⟨x, d, rfl, dp, nice, q⟩ := h
  have sh := nice.show_
  have sz := nice.fits
  have dep := nice.deep
  obtain ⟨u, rfl, ru⟩ := vals1 r
  obtain ⟨as, rd, nm⟩ := Dt.reads I d x u dp ru
  have hsm : d.hasDict = true → sysModules ∉ as := fun e => nm (nice.top e)
  cases dp with
  | non => cases (show u = Value.none from ru); exact PySem.P.repr_of_none ⟨.str _, H, I.tok _, ⟨_, rfl⟩, q⟩
  | bl b => cases (show u = Value.bool b from ru); exact PySem.P.repr_of_bool ⟨.str _, H, I.tok _, ⟨_, rfl⟩, by simpa only [PyData.shown] using q⟩
  | int i => obtain ⟨t, rfl⟩ := ru; exact PySem.P.repr_of_int (by simpa only [PyData.showable, decide_eq_true_eq] using sh) ⟨.str _, H, I.tok _, ⟨_, rfl⟩, by simpa only [PyData.shown] using q⟩
  | str z => obtain ⟨t, rfl⟩ := ru; exact PySem.P.repr_of_str ⟨.str _, H, I.tok _, ⟨_, rfl⟩, by simpa only [PyData.shown] using q⟩ (by simpa only [PyData.shown] using sz)
  | @lst a xs ds e1 e2 =>
    cases (show u = Value.ref a from ru)
    exact repr_of_reads' rd sh hsm gd (by omega) (fun _ _ e => e) (fun h' u tk hk => ⟨.str _, H, I.kept hk, ⟨_, rfl⟩, q⟩) sz
  | @tup a xs ds e1 e2 =>
    cases (show u = Value.ref a from ru)
    exact repr_of_reads' rd sh hsm gd (by omega) (fun _ _ e => e) (fun h' u tk hk => ⟨.str _, H, I.kept hk, ⟨_, rfl⟩, q⟩) sz
  | @dic a kvs e1 =>
    cases (show u = Value.ref a from ru)
    exact repr_of_reads' rd sh hsm gd (by omega) (fun _ _ e => e) (fun h' u tk hk => ⟨.str _, H, I.kept hk, ⟨_, rfl⟩, q⟩) sz
end
/-! ### what kind data is of -/
def tyN : PyData → String
  | .none => "NoneType"
  | .bool _ => "bool"
  | .int _ => "int"
  | .str _ => "str"
  | .list _ => "list"
  | .tuple _ => "tuple"
  | .dict _ => "dict"
def isInt : PyData → Bool | .int _ => true | .bool _ => true | _ => false
def isBool : PyData → Bool | .bool _ => true | _ => false
def isList : PyData → Bool | .list _ => true | _ => false
def isTuple : PyData → Bool | .tuple _ => true | _ => false
def isStr : PyData → Bool | .str _ => true | _ => false
theorem kit_int (d : PyData) : kitB (tyN d) "int" = some (isInt d) := by cases d <;> kernel_rfl
theorem kit_bool (d : PyData) : kitB (tyN d) "bool" = some (isBool d) := by cases d <;> kernel_rfl
theorem kit_list (d : PyData) : kitB (tyN d) "list" = some (isList d) := by cases d <;> kernel_rfl
theorem kit_tuple (d : PyData) : kitB (tyN d) "tuple" = some (isTuple d) := by cases d <;> kernel_rfl
theorem kit_str (d : PyData) : kitB (tyN d) "str" = some (isStr d) := by cases d <;> kernel_rfl
theorem Dt.ty {K : PySem.W.Frag} {H : Hp} {v : V} {d : PyData} (h : Dt H v d) : TyX K H v (.type (tyN d)) := by
  cases h with
  | non => exact .base .non
  | bl b => exact .base (.bl b)
  | int i => exact .base (.int i)
  | str x => exact .base (.str x)
  | lst e _ => exact .base (.lst e)
  | tup e _ => exact .base (.tup e)
  | dic kvs e => exact .base (.dK e)
section
variable {X : Cx}
/-- isinstance(x, T) of data -/
def rIsD : List V → Hp → VK → Prop := fun xs H Q => ∃ (x : V) (d : PyData) (T : String) (b : Bool), xs = [x, .ty T] ∧ Dt H x d ∧ kitB (tyN d) T = some b ∧ Q (.bl b) H
theorem call_isD : CallR X (.builtin "isinstance") rIsD := by
  intro pins s σ H xs us Q I r h
  obtain ⟨x, d, T, b, rfl, hd, hk, q⟩ := h
  exact call_isi pins s σ H _ us Q I r ⟨x, .ty T, _, _, b, rfl, .ty T, hd.ty, kit_ty hk, q⟩
end
/-! ### sizes -/
structure Bnd (k b : Nat) (d : PyData) : Prop where
  ok : okD d = true
  deep : d.depth ≤ k
  small : d.bulk ≤ b
theorem Bnd.nice {k b : Nat} {d : PyData} (h : Bnd k b d) (hk : k ≤ 60) (hb : b ≤ 262144) : Nice d := ⟨h.ok, Nat.le_trans h.deep hk, Nat.le_trans h.small hb⟩
theorem Bnd.up {k b k' b' : Nat} {d : PyData} (h : Bnd k b d) (hk : k ≤ k') (hb : b ≤ b') : Bnd k' b' d := ⟨h.ok, Nat.le_trans h.deep hk, Nat.le_trans h.small hb⟩
theorem Bnd.non {k b : Nat} : Bnd k b .none := ⟨by simp only [okD], by simp only [PyData.depth]; omega, by simp only [PyData.bulk]; omega⟩
theorem Bnd.bl {k b : Nat} (x : Bool) : Bnd k b (.bool x) := ⟨by simp only [okD], by simp only [PyData.depth]; omega, by simp only [PyData.bulk]; omega⟩
theorem Bnd.int {k b : Nat} {i : Int} (h : i.natAbs < 10 ^ 38) : Bnd k b (.int i) := ⟨by simp only [okD, decide_eq_true_eq]; exact h, by simp only [PyData.depth]; omega, by simp only [PyData.bulk]; omega⟩
theorem okDs_of : ∀ l : List PyData, (∀ x ∈ l, okD x = true) → okDs l = true
  | [], _ => by simp only [okDs]
  | x :: r, h => by
    simp only [okDs, Bool.and_eq_true]
    exact ⟨h x (List.mem_cons_self ..), okDs_of r fun y hy => h y (List.mem_cons_of_mem _ hy)⟩
theorem okDs_mem : ∀ l : List PyData, okDs l = true → ∀ x ∈ l, okD x = true
  | [], _, x, hx => by cases hx
  | y :: r, h, x, hx => by
    have h' : okD y = true ∧ okDs r = true := by simpa only [okDs, Bool.and_eq_true] using h
    rcases List.mem_cons.mp hx with e | e
    · rw [e]; exact h'.1
    · exact okDs_mem r h'.2 x e
theorem depthAll_mem : ∀ l : List PyData, ∀ x ∈ l, x.depth ≤ PyData.depthAll l
  | [], x, hx => by cases hx
  | y :: r, x, hx => by
    simp only [PyData.depthAll]
    rcases List.mem_cons.mp hx with e | e
    · rw [e]; omega
    · have := depthAll_mem r x e
      omega
theorem bulkAll_mem : ∀ l : List PyData, ∀ x ∈ l, x.bulk ≤ PyData.bulkAll l
  | [], x, hx => by cases hx
  | y :: r, x, hx => by
    simp only [PyData.bulkAll]
    rcases List.mem_cons.mp hx with e | e
    · rw [e]; omega
    · have := bulkAll_mem r x e
      omega
theorem Bnd.list {k b n c : Nat} {ds : List PyData} (h : ∀ x ∈ ds, Bnd k b x) (hl : ds.length ≤ n) (hc : n * (b + 1) ≤ c) : Bnd (k + 1) c (.list ds) := by
  refine ⟨?_, ?_, ?_⟩
  · simp only [okD]
    exact okDs_of ds fun x hx => (h x hx).ok
  · have := depthAll_le (n := k) ds fun x hx => (h x hx).deep
    simp only [PyData.depth]; omega
  · have := bulkAll_le (n := b) ds fun x hx => (h x hx).small
    have := Nat.mul_le_mul_right (b + 1) hl
    simp only [PyData.bulk]; omega
theorem Bnd.tuple {k b n c : Nat} {ds : List PyData} (h : ∀ x ∈ ds, Bnd k b x) (hl : ds.length ≤ n) (hc : n * (b + 1) ≤ c) : Bnd (k + 1) c (.tuple ds) := by
  refine ⟨?_, ?_, ?_⟩
  · simp only [okD]
    exact okDs_of ds fun x hx => (h x hx).ok
  · have := depthAll_le (n := k) ds fun x hx => (h x hx).deep
    simp only [PyData.depth]; omega
  · have := bulkAll_le (n := b) ds fun x hx => (h x hx).small
    have := Nat.mul_le_mul_right (b + 1) hl
    simp only [PyData.bulk]; omega
theorem Nice.listMem {ds : List PyData} (h : Nice (.list ds)) : ∀ x ∈ ds, Nice x := fun x hx => by
  obtain ⟨a, b, c⟩ := h
  have a' : okDs ds = true := by simpa only [okD] using a
  have e1 := depthAll_mem ds x hx
  have e2 := bulkAll_mem ds x hx
  simp only [PyData.depth] at b
  simp only [PyData.bulk] at c
  exact ⟨okDs_mem ds a' x hx, by omega, by omega⟩
theorem Nice.tupMem {ds : List PyData} (h : Nice (.tuple ds)) : ∀ x ∈ ds, Nice x := fun x hx => by
  obtain ⟨a, b, c⟩ := h
  have a' : okDs ds = true := by simpa only [okD] using a
  have e1 := depthAll_mem ds x hx
  have e2 := bulkAll_mem ds x hx
  simp only [PyData.depth] at b
  simp only [PyData.bulk] at c
  exact ⟨okDs_mem ds a' x hx, by omega, by omega⟩
end Hw
namespace Hw
open PySem PySem.Spec PyProof.Rows L2
/-- a turn of a comprehension: the list so far is f 0, .., f (i - 1) -/
theorem lcS {H1 H' : Hp} {D : Addr} {f : Nat → V} {i : Nat} (hD : H1 D = none) (s : Same H1 H') (e : H' D = some (.lst ((List.range i).map f))) (hz : i ≤ 1000000) :
    ∃ acc, H' D = some (.lst acc) ∧ acc.length < sizeLine ∧ Same H1 (upd H' D (.lst (acc ++ [f i]))) ∧ (upd H' D (.lst (acc ++ [f i]))) D = some (.lst ((List.range (i + 1)).map f)) := by
  refine ⟨_, e, ?_, fun b o hb => ?_, ?_⟩
  · rw [List.length_map, List.length_range, sizeLine_eq]; omega
  · rw [upd_ne (ne_of_none hb hD)]
    exact s b o hb
  · rw [upd_same, List.range_succ, List.map_append]
    rfl
theorem range_get {α : Type} (l : List α) (f : α → V) (g : Nat → V) (h : ∀ i x, l[i]? = some x → g i = f x) : (List.range l.length).map g = l.map f := by
  apply List.ext_getElem?
  intro i
  rw [List.getElem?_map, List.getElem?_map]
  by_cases hi : i < l.length
  · rw [List.getElem?_range hi, List.getElem?_eq_getElem hi]
    exact congrArg some (h i _ (List.getElem?_eq_getElem hi))
  · rw [List.getElem?_eq_none (by rw [List.length_range]; omega), List.getElem?_eq_none (by omega)]
    rfl
/-- the same, told of the list's members -/
theorem range_mem {α : Type} {xs : List V} {l : List α} (f : α → V) (g : Nat → V) (hl : xs.length = l.length) (h : ∀ i x, l[i]? = some x → g i = f x) : (List.range xs.length).map g = l.map f := by
  rw [hl]
  exact range_get l f g h
end Hw
namespace Hw
open PySem PySem.Spec PyProof.Rows L2
/-- the answer about the member at i -/
def atF {α : Type} (l : List α) (g : α → Bool) (i : Nat) : Bool := match l[i]? with
  | some y => g y
  | none => false
theorem atF_at {α : Type} {l : List α} {g : α → Bool} {i : Nat} {y : α} (h : l[i]? = some y) : atF l g i = g y := by
  unfold atF
  rw [h]
theorem all_atF {α : Type} (l : List α) (g : α → Bool) : ((List.range l.length).map (atF l g)).all id = l.all g := by
  rw [Bool.eq_iff_iff, List.all_eq_true, List.all_eq_true]
  constructor
  · intro h y hy
    obtain ⟨i, hi, e⟩ := List.getElem_of_mem hy
    have h2 := h (atF l g i) (List.mem_map.mpr ⟨i, List.mem_range.mpr hi, rfl⟩)
    rw [atF_at (List.getElem?_eq_getElem hi), e] at h2
    exact h2
  · intro h b hb
    obtain ⟨i, hi, rfl⟩ := List.mem_map.mp hb
    have hi := List.mem_range.mp hi
    rw [atF_at (List.getElem?_eq_getElem hi)]
    exact h _ (List.getElem_mem hi)
theorem vi {a b : Int} : decide (V.int a = V.int b) = decide (a = b) := by
  by_cases h : a = b
  · rw [h, decide_eq_true rfl, decide_eq_true rfl]
  · rw [decide_eq_false h, decide_eq_false fun z => h (by cases z; rfl)]
theorem vs_eq {a b : Str} : decide (V.str a = V.str b) = decide (a = b) := by
  by_cases h : a = b
  · rw [h, decide_eq_true rfl, decide_eq_true rfl]
  · rw [decide_eq_false h, decide_eq_false fun z => h (by cases z; rfl)]
theorem shaped_list {fs : List PyData} (h : ∀ x ∈ fs, Nice x) : SeqAt.shaped (.list fs) = true := by
  have h1 : PyData.canLayAll0 fs = true := (okDs_all fs (okDs_of fs fun x hx => (h x hx).ok)).1
  have h2 := depthAll_le (n := 60) fs fun x hx => (h x hx).deep
  have h3 : PyData.canLay0 (.list fs) = true := by simp only [PyData.canLay0]; exact h1
  have h4 : PyData.depth (.list fs) ≤ 64 := by simp only [PyData.depth]; omega
  show (PyData.canLay0 (.list fs) && decide (PyData.depth (.list fs) ≤ 64)) = true
  rw [h3, decide_eq_true h4]
  rfl
theorem eqv_nil (fs : List PyData) : PyData.eqv (.list fs) (.list []) = fs.isEmpty := by cases fs <;> simp [PyData.eqv, PyData.eqvAll]
theorem shaped_nil : SeqAt.shaped (.list []) = true := shaped_list fun x hx => nomatch hx
end Hw

/-! ### the rules with the written part named -/
namespace Hw
open PySem PySem.Spec PyProof.Rows L2
section
variable {X : Cx} {K : PySem.W.Frag}
def rLenK (K : PySem.W.Frag) : List V → Hp → VK → Prop := fun xs H Q => ∃ p ys, xs = [.ref p] ∧ (SqL K H p ys ∨ SqT K H p ys) ∧ Q (.int ys.length) H
theorem call_lenK (h : X.K = K) : CallR X (.builtin "len") (rLenK K) := by subst h; exact call_len_seq
theorem cr_allK (h : X.K = K) (hc : X.calm = true) : CallR X (.builtin "all") (rAll K) := by subst h; exact cr_all hc
theorem cr_sumK (h : X.K = K) (hc : X.calm = true) : CallR X (.builtin "sum") (rSum K) := by subst h; exact cr_sum hc
def rListK (K : PySem.W.Frag) : List V → Hp → VK → Prop := fun xs H Q => ∃ p ys, xs = [.ref p] ∧ (SqL K H p ys ∨ SqT K H p ys) ∧ ∀ l, H l = none → Q (.ref l) (upd H l (.lst ys))
theorem call_listK (h : X.K = K) : CallR X (.type "list") (rListK K) := by subst h; exact call_list_of
def rTupK (K : PySem.W.Frag) : List V → Hp → VK → Prop := fun xs H Q => ∃ p ys, xs = [.ref p] ∧ ((SqL K H p ys ∧ ∀ l, H l = none → Q (.ref l) (upd H l (.tup ys))) ∨ (SqT K H p ys ∧ Q (.ref p) H))
theorem call_tupK (h : X.K = K) : CallR X (.type "tuple") (rTupK K) := by subst h; exact call_tuple_of
theorem ix_listK (h : X.K = K) : IxR X (rIxL K) := by subst h; exact ix_list
theorem ix_tupK (h : X.K = K) : IxR X (rIxT K) := by subst h; exact ix_tup
theorem sl_listK (h : X.K = K) : SlR X (rSlL K) := by subst h; exact sl_list
theorem sl_tupK (h : X.K = K) : SlR X (rSlA K) := by subst h; exact sl_tupA
end
end Hw
namespace Hw
open PySem PySem.Spec PyProof.Rows L2
/-! ### the heap but for one place -/
def off (a : Addr) (H : Hp) : Hp := fun b => if b = a then none else H b
theorem off_ne {a b : Addr} {H : Hp} (h : b ≠ a) : off a H b = H b := if_neg h
theorem off_at {a b : Addr} {H : Hp} {o : HO} (h : off a H b = some o) : b ≠ a ∧ H b = some o := by
  unfold off at h
  by_cases e : b = a
  · rw [if_pos e] at h; cases h
  · rw [if_neg e] at h; exact ⟨e, h⟩
theorem off_same {a : Addr} {H : Hp} : Same (off a H) H := fun _ _ h => (off_at h).2
theorem SameX.off {a : Addr} {H H' : Hp} (e : SameX a H H') : Same (off a H) (off a H') := fun b o h => by
  obtain ⟨n, h⟩ := off_at h
  rw [off_ne n]
  exact e b o n h
theorem off_of {a b : Addr} {H : Hp} {o : HO} (n : b ≠ a) (h : H b = some o) : off a H b = some o := by rw [off_ne n]; exact h
theorem Dt.on {a : Addr} {H : Hp} {v : V} {d : PyData} (h : Dt (off a H) v d) : Dt H v d := h.to off_same
/-! ### lists of numbers -/
abbrev natV (l : List Nat) : List V := l.map fun (x : Nat) => V.int (x : Int)
abbrev natD (l : List Nat) : List PyData := l.map fun (x : Nat) => PyData.int (x : Int)
theorem DtAll.nats {H : Hp} : ∀ l : List Nat, DtAll H (natV l) (natD l)
  | [] => .nil
  | x :: r => .cons (.int x) (DtAll.nats r)
theorem DtAll.nats_inv {H : Hp} : ∀ (l : List Nat) (vs : List V), DtAll H vs (natD l) → vs = natV l
  | [], _, h => by cases h; rfl
  | x :: r, _, h => by
    cases h with
    | cons h1 h2 =>
      cases h1
      rw [DtAll.nats_inv r _ h2]
      rfl
theorem DtAll.bls_inv {H : Hp} : ∀ (l : List Bool) (vs : List V), DtAll H vs (l.map PyData.bool) → vs = l.map V.bl
  | [], _, h => by cases h; rfl
  | x :: r, _, h => by
    cases h with
    | cons h1 h2 =>
      cases h1
      rw [DtAll.bls_inv r _ h2]
      rfl
theorem Dt.nats {H : Hp} {a : Addr} {l : List Nat} (h : H a = some (.lst (natV l))) : Dt H (.ref a) (.list (natD l)) := .lst h (DtAll.nats l)
theorem nat_get {l : List Nat} {i : Nat} {x : V} (h : (natV l)[i]? = some x) : ∃ b : Nat, l[i]? = some b ∧ V.int (b : Int) = x := by
  rw [List.getElem?_map] at h
  exact Option.map_eq_some_iff.mp h
theorem nat_at {l : List Nat} {i b : Nat} (h : l[i]? = some b) : (natV l)[i]? = some (V.int (b : Int)) := by
  rw [List.getElem?_map, h]
  rfl
theorem Bnd.nats {l : List Nat} {n c : Nat} (h : ∀ x ∈ l, x < 10 ^ 38) (hl : l.length ≤ n) (hc : n ≤ c) : Bnd 1 c (.list (natD l)) := by
  refine Bnd.list (k := 0) (b := 0) (n := n) (fun d hd => ?_) (by rw [List.length_map]; exact hl) (by omega)
  obtain ⟨x, hx, rfl⟩ := List.mem_map.mp hd
  exact .int (by have := h x hx; omega)
/-! ### bits in columns -/
def bitN (x p : Nat) : Nat := x / 2 ^ p % 2
def worthN : List Nat → Nat
  | [] => 0
  | b :: r => b + 2 * worthN r
theorem worthN_add : ∀ (l : List Nat) (b : Nat), worthN (l ++ [b]) = worthN l + b * 2 ^ l.length
  | [], b => by show b + 2 * 0 = 0 + b * 1; omega
  | c :: r, b => by
    show c + 2 * worthN (r ++ [b]) = c + 2 * worthN r + b * 2 ^ (r.length + 1)
    rw [worthN_add r b, Nat.pow_succ, Nat.mul_add, ← Nat.mul_assoc b, Nat.mul_comm _ 2]
    omega
theorem worthN_lt : ∀ l : List Nat, (∀ b ∈ l, b < 2) → worthN l < 2 ^ l.length
  | [], _ => by show 0 < 1; omega
  | c :: r, h => by
    have h1 := h c (List.mem_cons_self ..)
    have h2 := worthN_lt r fun b hb => h b (List.mem_cons_of_mem _ hb)
    show c + 2 * worthN r < 2 ^ (r.length + 1)
    rw [Nat.pow_succ]
    omega
theorem bitN_lt (x p : Nat) : bitN x p < 2 := Nat.mod_lt _ (by decide)
theorem bitN_worth : ∀ (l : List Nat) (i : Nat), (∀ b ∈ l, b < 2) → bitN (worthN l) i = l.getD i 0
  | [], i, _ => by
    show 0 / 2 ^ i % 2 = ([] : List Nat).getD i 0
    rw [Nat.zero_div]
    rfl
  | c :: r, 0, h => by
    have h1 := h c (List.mem_cons_self ..)
    show (c + 2 * worthN r) / 2 ^ 0 % 2 = c
    rw [Nat.pow_zero, Nat.div_one]
    omega
  | c :: r, i + 1, h => by
    have h1 := h c (List.mem_cons_self ..)
    have ih := bitN_worth r i fun b hb => h b (List.mem_cons_of_mem _ hb)
    show (c + 2 * worthN r) / 2 ^ (i + 1) % 2 = r.getD i 0
    rw [Nat.pow_succ, Nat.mul_comm (2 ^ i) 2, ← Nat.div_div_eq_div_mul, show (c + 2 * worthN r) / 2 = worthN r by omega]
    exact ih
theorem worthN_bits (x : Nat) : ∀ n : Nat, worthN ((List.range n).map (bitN x)) = x % 2 ^ n
  | 0 => by rw [Nat.pow_zero, Nat.mod_one]; rfl
  | n + 1 => by
    rw [List.range_succ, List.map_append, List.map_cons, List.map_nil, worthN_add, worthN_bits x n, List.length_map, List.length_range, Nat.mod_pow_succ, Nat.mul_comm]; rfl
/-- the p-th bits of all -/
def col (l : List Nat) (p : Nat) : Nat := worthN (l.map fun x => bitN x p)
def tr (n : Nat) (l : List Nat) : List Nat := (List.range n).map (col l)
theorem col_bits (l : List Nat) (p : Nat) : ∀ b ∈ l.map fun x => bitN x p, b < 2 := fun b hb => by
  obtain ⟨x, _, rfl⟩ := List.mem_map.mp hb
  exact bitN_lt x p
theorem col_lt (l : List Nat) (p : Nat) : col l p < 2 ^ l.length := by
  have := worthN_lt _ (col_bits l p)
  rw [List.length_map] at this
  exact this
theorem tr_len (n : Nat) (l : List Nat) : (tr n l).length = n := by unfold tr; rw [List.length_map, List.length_range]
theorem tr_lt {n : Nat} {l : List Nat} : ∀ x ∈ tr n l, x < 2 ^ l.length := fun x hx => by
  obtain ⟨p, _, rfl⟩ := List.mem_map.mp hx
  exact col_lt l p
theorem tr_tr {n : Nat} {l : List Nat} (h : ∀ x ∈ l, x < 2 ^ n) : tr l.length (tr n l) = l := by
  apply List.ext_getElem?
  intro i
  unfold tr
  rw [List.getElem?_map]
  by_cases hi : i < l.length
  · rw [List.getElem?_range hi, List.getElem?_eq_getElem hi]
    show some (col ((List.range n).map (col l)) i) = some l[i]
    unfold col
    rw [List.map_map]
    have e : (List.range n).map ((fun x => bitN x i) ∘ fun p => worthN (l.map fun x => bitN x p)) = (List.range n).map (bitN l[i]) := by
      apply List.map_congr_left
      intro p _
      show bitN (worthN (l.map fun x => bitN x p)) i = bitN l[i] p
      rw [bitN_worth _ _ (col_bits l p), List.getD_eq_getElem?_getD, List.getElem?_map, List.getElem?_eq_getElem hi]
      rfl
    rw [e, worthN_bits, Nat.mod_eq_of_lt (h _ (List.getElem_mem hi))]
  · rw [List.getElem?_eq_none (by rw [List.length_range]; omega), List.getElem?_eq_none (by omega)]
    rfl
theorem col_take {l : List Nat} {i x : Nat} (p : Nat) (h : l[i]? = some x) : col (l.take (i + 1)) p = col (l.take i) p + bitN x p * 2 ^ i := by
  unfold col
  have hi : i < l.length := (List.getElem?_eq_some_iff.mp h).1
  rw [List.take_add_one, h, List.map_append]
  show worthN (_ ++ [bitN x p]) = _
  rw [worthN_add, List.length_map, List.length_take, Nat.min_eq_left (by omega)]
/-! ### tables -/
structure Tb where
  many : Nat
  steps : List (List Nat)
  ends : List Bool
def Tb.d (t : Tb) : PyData := .tuple [.int (t.many : Int), .list (t.steps.map fun l => .list (natD l)), .list (t.ends.map .bool)]
structure Tb.Good (t : Tb) : Prop where
  many : t.many ≤ 6
  some : 0 < t.steps.length
  same : t.ends.length = t.steps.length
  line : ∀ l ∈ t.steps, l.length = 2 ^ t.many
  stand : ∀ l ∈ t.steps, ∀ x ∈ l, x < t.steps.length
def Tb.next (t : Tb) (s c : Nat) : Nat := (t.steps.getD s []).getD c 0
def Tb.behind (t : Tb) (l : List Nat) : Nat := l.foldl t.next 0
theorem Tb.Good.next {t : Tb} (g : t.Good) {s c : Nat} (hs : s < t.steps.length) (hc : c < 2 ^ t.many) : ∃ l, t.steps[s]? = Option.some l ∧ l[c]? = Option.some (t.next s c) ∧ t.next s c < t.steps.length := by
  have e := List.getElem?_eq_getElem hs
  have hl := g.line _ (List.getElem_mem hs)
  have hc' : c < (t.steps[s]).length := by omega
  have e2 := List.getElem?_eq_getElem hc'
  have en : t.next s c = t.steps[s][c] := by
    unfold Tb.next
    rw [List.getD_eq_getElem?_getD, List.getD_eq_getElem?_getD, e, Option.getD_some, e2]
    rfl
  exact ⟨_, e, by rw [en]; exact e2, by rw [en]; exact g.stand _ (List.getElem_mem hs) _ (List.getElem_mem hc')⟩
theorem Tb.Good.behind {t : Tb} (g : t.Good) : ∀ (l : List Nat) (s : Nat), s < t.steps.length → (∀ x ∈ l, x < 2 ^ t.many) → l.foldl t.next s < t.steps.length
  | [], s, hs, _ => hs
  | c :: r, s, hs, h => by
    obtain ⟨_, _, _, h3⟩ := g.next hs (h c (List.mem_cons_self ..))
    exact g.behind r _ h3 fun x hx => h x (List.mem_cons_of_mem _ hx)
theorem Tb.behind_take {t : Tb} {l : List Nat} {i c : Nat} (h : l[i]? = some c) : t.behind (l.take (i + 1)) = t.next (t.behind (l.take i)) c := by
  unfold Tb.behind
  rw [List.take_add_one, h, List.foldl_append]
  rfl
/-- where the table's parts stand -/
theorem Dt.tab {H : Hp} {x : V} {t : Tb} (h : Dt H x t.d) : ∃ (a b c : Addr) (ys : List V), x = .ref a ∧ H a = some (.tup [.int (t.many : Int), .ref b, .ref c]) ∧ H b = some (.lst ys) ∧ ys.length = t.steps.length ∧
    (∀ (i : Nat) (l : List Nat), t.steps[i]? = some l → ∃ r : Addr, ys[i]? = some (V.ref r) ∧ H r = some (.lst (natV l))) ∧ H c = some (.lst (t.ends.map V.bl)) ∧ DtAll H ys (t.steps.map fun l => .list (natD l)) := by
  unfold Tb.d at h
  cases h with
  | @tup a xs ds ha hs =>
  cases hs with
  | cons hm hs =>
  cases hs with
  | cons hst hs =>
  cases hs with
  | cons hen hs =>
  cases hs with
  | nil =>
  cases hm
  cases hst with
  | @lst b ys ss hb hss =>
  cases hen with
  | @lst c zs es hc hes =>
  have e := DtAll.bls_inv _ _ hes
  subst e
  have hl : ys.length = t.steps.length := by rw [hss.len, List.length_map]
  refine ⟨a, b, c, ys, rfl, ha, hb, hl, fun i l hi => ?_, hc, hss⟩
  have il : i < ys.length := by rw [hl]; exact (List.getElem?_eq_some_iff.mp hi).1
  obtain ⟨d, hd, hy⟩ := hss.get i _ (List.getElem?_eq_getElem il)
  rw [List.getElem?_map, hi] at hd
  cases hd
  generalize hz : ys[i] = z at hy
  cases hy with
  | @lst r qs _ hr hq =>
    have e := DtAll.nats_inv _ _ hq
    subst e
    exact ⟨r, by rw [List.getElem?_eq_getElem il, hz], hr⟩
end Hw
namespace Hw
open PySem PySem.Spec PyProof.Rows L2
/-! ### a comprehension with a test -/
def Flt (ds : List PyData) (p : PyData → Bool) (H1 : Hp) (D : Addr) (i : Nat) (H' : Hp) : Prop := Same H1 H' ∧ ∃ vs, H' D = some (.lst vs) ∧ DtAll H1 vs ((ds.take i).filter p) ∧ vs.length ≤ i
theorem Flt.start {ds : List PyData} {p : PyData → Bool} {H1 : Hp} {D : Addr} (hD : H1 D = none) : Flt ds p H1 D 0 (upd H1 D (.lst [])) := ⟨same_new' hD, [], upd_same, .nil, Nat.le_refl _⟩
theorem Flt.keep {ds : List PyData} {p : PyData → Bool} {H1 H' : Hp} {D : Addr} {i : Nat} {d : PyData} {y : V} (f : Flt ds p H1 D i H') (hD : H1 D = none) (hi : ds[i]? = some d) (hp : p d = true) (hy : Dt H1 y d) (hz : i ≤ 1000000) :
    ∃ acc, H' D = some (.lst acc) ∧ acc.length < sizeLine ∧ Flt ds p H1 D (i + 1) (upd H' D (.lst (acc ++ [y]))) := by
  obtain ⟨s, vs, e, hv, hl⟩ := f
  refine ⟨vs, e, by rw [sizeLine_eq]; omega, fun b o hb => ?_, vs ++ [y], upd_same, ?_, by rw [List.length_append]; show vs.length + 1 ≤ i + 1; omega⟩
  · rw [upd_ne (ne_of_none hb hD)]
    exact s b o hb
  · rw [List.take_add_one, hi, List.filter_append]
    refine hv.app ?_
    show DtAll H1 [y] (List.filter p [d])
    rw [List.filter_cons_of_pos hp]
    exact .cons hy .nil
theorem Flt.skip {ds : List PyData} {p : PyData → Bool} {H1 H' : Hp} {D : Addr} {i : Nat} {d : PyData} (f : Flt ds p H1 D i H') (hi : ds[i]? = some d) (hp : p d = false) : Flt ds p H1 D (i + 1) H' := by
  obtain ⟨s, vs, e, hv, hl⟩ := f
  refine ⟨s, vs, e, ?_, by omega⟩
  rw [List.take_add_one, hi, List.filter_append]
  show DtAll H1 vs (_ ++ List.filter p [d])
  rw [List.filter_cons_of_neg (by rw [hp]; exact Bool.false_ne_true), List.filter_nil, List.append_nil]
  exact hv
theorem Flt.done {ds : List PyData} {p : PyData → Bool} {H1 H' : Hp} {D : Addr} {n : Nat} (f : Flt ds p H1 D n H') (hn : n = ds.length) : Same H1 H' ∧ Dt H' (.ref D) (.list (ds.filter p)) := by
  obtain ⟨s, vs, e, hv, hl⟩ := f
  subst hn
  rw [List.take_length] at hv
  exact ⟨s, .lst e (hv.to s)⟩
theorem filter_none {α : Type} (p : α → Bool) : ∀ l : List α, (l.filter fun x => !p x).isEmpty = l.all p
  | [] => rfl
  | x :: r => by
    rw [List.all_cons, ← filter_none p r]
    cases h : p x with
    | true => rw [List.filter_cons_of_neg (by rw [h]; exact Bool.false_ne_true)]; rfl
    | false => rw [List.filter_cons_of_pos (by rw [h]; rfl)]; rfl
/-- .. != [] of such a list -/
theorem ne_nil {H' : Hp} {E : Addr} {x : V} {ds : List PyData} {p : PyData → Bool} {Q : VK} (hx : Dt H' x (.list (ds.filter p))) (hE : H' E = none) (nd : ∀ d ∈ ds, Nice d) (h : Q (.bl (!(ds.filter p).isEmpty)) (upd H' E (.lst []))) : rNeT x (.ref E) (upd H' E (.lst [])) Q := by
  refine ⟨_, .list [], hx.to (same_new' hE), .lst upd_same .nil, shaped_list fun d hd => nd d (List.mem_filter.mp hd).1, shaped_nil, ?_⟩
  rw [eqv_nil]
  exact h
end Hw

set_option Elab.async false
set_option linter.all false
set_option maxRecDepth 100000
set_option maxHeartbeats 4000000
/-! expressions that only lay new data: what they give, without their places -/
namespace Hw
open PySem PySem.Spec PyProof.Rows L2
/-- the heap without some places -/
def offs (l : List Addr) (H : Hp) : Hp := fun b => if b ∈ l then none else H b
theorem offs_at {l : List Addr} {b : Addr} {H : Hp} {o : HO} (h : offs l H b = some o) : b ∉ l ∧ H b = some o := by
  unfold offs at h
  by_cases e : b ∈ l
  · rw [if_pos e] at h; cases h
  · rw [if_neg e] at h; exact ⟨e, h⟩
theorem offs_of {l : List Addr} {b : Addr} {H : Hp} {o : HO} (n : b ∉ l) (h : H b = some o) : offs l H b = some o := by
  unfold offs
  rw [if_neg n]
  exact h
theorem offs_same {l : List Addr} {H : Hp} : Same (offs l H) H := fun _ _ h => (offs_at h).2
theorem offs_mono {l : List Addr} {H H' : Hp} (e : Same H H') : Same (offs l H) (offs l H') := fun b o h => by
  obtain ⟨n, h⟩ := offs_at h
  exact offs_of n (e b o h)
theorem offs_one {a : Addr} {H : Hp} : off a H = offs [a] H := by
  funext b
  unfold off offs
  by_cases h : b = a
  · rw [if_pos h, if_pos (by rw [h]; exact List.mem_singleton.mpr rfl)]
  · rw [if_neg h, if_neg fun z => h (List.mem_singleton.mp z)]
/-- a write at a hidden place -/
theorem offs_upd {l : List Addr} {F : Addr} {H : Hp} {o : HO} (h : F ∈ l) : offs l (upd H F o) = offs l H := by
  funext b
  unfold offs
  by_cases e : b ∈ l
  · rw [if_pos e, if_pos e]
  · rw [if_neg e, if_neg e, upd_ne fun z => e (by rw [z]; exact h)]
/-- what the work rests on: it stays while new things are laid -/
structure Stb (l : List Addr) (S : Hp → Prop) : Prop where
  keep : ∀ H H', S H → Same H H' → S H'
  new : ∀ H p, S H → H p = none → p ∉ l
abbrev Fi := V → Hp → Prop
def Ev (S : Hp → Prop) (φ : Fi) (te : TE) (σ : L2.St) : Prop := ∀ H Q, S H → (∀ x H', Same H H' → φ x H' → Q x H') → te σ H Q
def Eva (S : Hp → Prop) (Φ : List V → Hp → Prop) (ta : TA) (σ : L2.St) : Prop := ∀ H Q, S H → (∀ xs H', Same H H' → Φ xs H' → Q xs H') → ta σ H Q
def Evo (S : Hp → Prop) (to : TO) (σ : L2.St) : Prop := ∀ H (Q : Option Int → Hp → Prop), S H → (∀ x H', Same H H' → Q x H') → to σ H Q
/-- data; a list, a tuple of data; data one by one -/
def D (l : List Addr) (P : PyData → Prop) : Fi := fun x H => ∃ d, Dt (offs l H) x d ∧ P d
def LD (l : List Addr) (P : PyData → Prop) (n : Nat) : Fi := fun x H => ∃ p vs ds, x = .ref p ∧ offs l H p = some (.lst vs) ∧ DtAll (offs l H) vs ds ∧ (∀ d ∈ ds, P d) ∧ ds.length ≤ n
def TD (l : List Addr) (P : PyData → Prop) (n : Nat) : Fi := fun x H => ∃ p vs ds, x = .ref p ∧ offs l H p = some (.tup vs) ∧ DtAll (offs l H) vs ds ∧ (∀ d ∈ ds, P d) ∧ ds.length ≤ n
def AD (l : List Addr) (P : PyData → Prop) (n : Nat) : List V → Hp → Prop := fun xs H => ∃ ds, DtAll (offs l H) xs ds ∧ (∀ d ∈ ds, P d) ∧ ds.length ≤ n
section
variable {l : List Addr} {P : PyData → Prop} {k b n k' b' n' : Nat} {S : Hp → Prop} {σ : L2.St} {K : PySem.W.Frag}
theorem D.same {x : V} {H H' : Hp} (h : D l P x H) (e : Same H H') : D l P x H' := by
  obtain ⟨d, hd, hb⟩ := h
  exact ⟨d, hd.to (offs_mono e), hb⟩
theorem D.up {x : V} {H : Hp} (h : D l (Bnd k b) x H) (hk : k ≤ k') (hb : b ≤ b') : D l (Bnd k' b') x H := by
  obtain ⟨d, hd, h2⟩ := h
  exact ⟨d, hd, h2.up hk hb⟩
theorem LD.same {x : V} {H H' : Hp} (h : LD l P n x H) (e : Same H H') : LD l P n x H' := by
  obtain ⟨p, vs, ds, rfl, h1, h2, h3, h4⟩ := h
  exact ⟨p, vs, ds, rfl, offs_mono e _ _ h1, h2.to (offs_mono e), h3, h4⟩
theorem LD.d {x : V} {H : Hp} (h : LD l (Bnd k b) n x H) : D l (Bnd (k + 1) (n * (b + 1))) x H := by
  obtain ⟨p, vs, ds, rfl, h1, h2, h3, h4⟩ := h
  exact ⟨.list ds, .lst h1 h2, Bnd.list h3 h4 (Nat.le_refl _)⟩
theorem TD.d {x : V} {H : Hp} (h : TD l (Bnd k b) n x H) : D l (Bnd (k + 1) (n * (b + 1))) x H := by
  obtain ⟨p, vs, ds, rfl, h1, h2, h3, h4⟩ := h
  exact ⟨.tuple ds, .tup h1 h2, Bnd.tuple h3 h4 (Nat.le_refl _)⟩
theorem LD.up {x : V} {H : Hp} (h : LD l (Bnd k b) n x H) (hk : k ≤ k') (hb : b ≤ b') (hn : n ≤ n') : LD l (Bnd k' b') n' x H := by
  obtain ⟨p, vs, ds, rfl, h1, h2, h3, h4⟩ := h
  exact ⟨p, vs, ds, rfl, h1, h2, fun d hd => (h3 d hd).up hk hb, by omega⟩
theorem Ev.mono {φ ψ : Fi} {te : TE} (h : Ev S φ te σ) (m : ∀ x H, φ x H → ψ x H) : Ev S ψ te σ := fun H Q s q => h H Q s fun x H' e p => q x H' e (m x H' p)
theorem Ev.du {te : TE} (h : Ev S (D l (Bnd k b)) te σ) (hk : k ≤ k' := by decide) (hb : b ≤ b' := by decide) : Ev S (D l (Bnd k' b')) te σ := h.mono fun _ _ p => p.up hk hb
theorem Ev.ld {te : TE} (h : Ev S (LD l (Bnd k b) n) te σ) (hk : k + 1 ≤ k' := by decide) (hb : n * (b + 1) ≤ b' := by decide) : Ev S (D l (Bnd k' b')) te σ := h.mono fun _ _ p => p.d.up hk hb
theorem Ev.td {te : TE} (h : Ev S (TD l (Bnd k b) n) te σ) (hk : k + 1 ≤ k' := by decide) (hb : n * (b + 1) ≤ b' := by decide) : Ev S (D l (Bnd k' b')) te σ := h.mono fun _ _ p => p.d.up hk hb
theorem Ev.lu {te : TE} (h : Ev S (LD l (Bnd k b) n) te σ) (hk : k ≤ k' := by decide) (hb : b ≤ b' := by decide) (hn : n ≤ n' := by decide) : Ev S (LD l (Bnd k' b') n') te σ := h.mono fun _ _ p => p.up hk hb hn
/-! constants, names -/
theorem Ev.non : Ev S (D l (Bnd k b)) (tC .non) σ := fun H Q _ q => q _ H (Same.refl H) ⟨_, .non, .non⟩
theorem Ev.bl (x : Bool) : Ev S (D l (Bnd k b)) (tC (.bl x)) σ := fun H Q _ q => q _ H (Same.refl H) ⟨_, .bl x, .bl x⟩
theorem Ev.int (i : Int) (h : i.natAbs < 10 ^ 38 := by decide) : Ev S (D l (Bnd k b)) (tC (.int i)) σ := fun H Q _ q => q _ H (Same.refl H) ⟨_, .int i, .int h⟩
theorem Bnd.str {x : Str} (h : okD (.str x) = true) (hb : x.cps.size ≤ b) : Bnd k b (.str x) := ⟨h, by simp only [PyData.depth]; omega, by simp only [PyData.bulk]; omega⟩
theorem Ev.str (x : Str) (h : okD (.str x) = true := by decide +kernel) (hb : x.cps.size ≤ b := by decide +kernel) : Ev S (D l (Bnd k b)) (tC (.str x)) σ := fun H Q _ q => q _ H (Same.refl H) ⟨_, .str x, .str h hb⟩
theorem Ev.var {φ : Fi} {i : Nat} {x : V} (h : σ[i]? = some (some x)) (hx : ∀ H, S H → φ x H) : Ev S φ (tVar i) σ := fun H Q s q => ⟨x, h, q x H (Same.refl H) (hx H s)⟩
/-! lists, tuples -/
theorem Eva.nil : Eva S (AD l P 0) tNil σ := fun H Q _ q => q _ H (Same.refl H) ⟨[], .nil, (fun _ h => nomatch h), Nat.le_refl _⟩
theorem Eva.cons (st : Stb l S) {te : TE} {ta : TA} (h : Ev S (D l P) te σ) (r : Eva S (AD l P n) ta σ) : Eva S (AD l P (n + 1)) (tCons te ta) σ := fun H Q s q => by
  refine h H _ s fun x H1 e1 p1 => r H1 _ (st.keep _ _ s e1) fun xs H2 e2 p2 => q _ H2 (e1.trans e2) ?_
  obtain ⟨d, hd, hb⟩ := p1.same e2
  obtain ⟨ds, h1, h2, h3⟩ := p2
  exact ⟨d :: ds, .cons hd h1, fun y hy => by
    rcases List.mem_cons.mp hy with z | z
    · rw [z]; exact hb
    · exact h2 y z, by rw [List.length_cons]; omega⟩
theorem Ev.lst (st : Stb l S) {ta : TA} (h : Eva S (AD l P n) ta σ) (hn : n ≤ 100000 := by decide) : Ev S (LD l P n) (tLst ta) σ := fun H Q s q => by
  refine h H _ s fun xs H1 e1 p1 => ?_
  obtain ⟨ds, h1, h2, h3⟩ := p1
  refine ⟨by rw [h1.len, sizeLine_eq]; omega, fun p hp => ?_⟩
  have np := st.new H1 p (st.keep _ _ s e1) hp
  have e2 := same_new' (o := .lst xs) hp
  exact q _ _ (e1.trans e2) ⟨p, xs, ds, rfl, offs_of np upd_same, h1.to (offs_mono e2), h2, h3⟩
theorem Ev.tup (st : Stb l S) {ta : TA} (h : Eva S (AD l P n) ta σ) (hn : n ≤ 100000 := by decide) : Ev S (TD l P n) (tTup ta) σ := fun H Q s q => by
  refine h H _ s fun xs H1 e1 p1 => ?_
  obtain ⟨ds, h1, h2, h3⟩ := p1
  refine ⟨by rw [h1.len, sizeLine_eq]; omega, fun p hp => ?_⟩
  have np := st.new H1 p (st.keep _ _ s e1) hp
  have e2 := same_new' (o := .tup xs) hp
  exact q _ _ (e1.trans e2) ⟨p, xs, ds, rfl, offs_of np upd_same, h1.to (offs_mono e2), h2, h3⟩
theorem Ev.cat (st : Stb l S) {ta tb : TE} (h : Ev S (LD l P n) ta σ) (h' : Ev S (LD l P n') tb σ) (hn : n + n' ≤ 100000 := by decide) : Ev S (LD l P (n + n')) (tOp rCat ta tb) σ := fun H Q s q => by
  refine h H _ s fun x H1 e1 p1 => h' H1 _ (st.keep _ _ s e1) fun y H2 e2 p2 => ?_
  obtain ⟨p, vs, ds, rfl, a1, a2, a3, a4⟩ := p1.same e2
  obtain ⟨p', vs', ds', rfl, b1, b2, b3, b4⟩ := p2
  have h1 := a2.len
  have h2 := b2.len
  refine ⟨p, p', vs, vs', rfl, rfl, (offs_at a1).2, (offs_at b1).2, by rw [sizeLine_eq]; omega, fun r hr => ?_⟩
  have s2 := st.keep _ _ s (e1.trans e2)
  have nr := st.new H2 r s2 hr
  have e3 := same_new' (o := .lst (vs ++ vs')) hr
  exact q _ _ ((e1.trans e2).trans e3) ⟨r, _, ds ++ ds', rfl, offs_of nr upd_same, (a2.app b2).to (offs_mono e3), fun d hd => (List.mem_append.mp hd).elim (a3 d) (b3 d), by rw [List.length_append]; omega⟩
theorem Ev.catT (st : Stb l S) {ta tb : TE} (h : Ev S (TD l P n) ta σ) (h' : Ev S (TD l P n') tb σ) (hn : n + n' ≤ 100000 := by decide) : Ev S (TD l P (n + n')) (tOp (rCatA K) ta tb) σ := fun H Q s q => by
  refine h H _ s fun x H1 e1 p1 => h' H1 _ (st.keep _ _ s e1) fun y H2 e2 p2 => ?_
  obtain ⟨p, vs, ds, rfl, a1, a2, a3, a4⟩ := p1
  have a1 := offs_mono (l := l) e2 _ _ a1
  have a2 := a2.to (offs_mono e2)
  obtain ⟨p', vs', ds', rfl, b1, b2, b3, b4⟩ := p2
  have h1 := a2.len
  have h2 := b2.len
  refine ⟨p, p', vs, vs', rfl, rfl, .inl (.inl (offs_at a1).2), .inl (.inl (offs_at b1).2), by rw [sizeLine_eq]; omega, fun _ => ?_, fun _ _ => ?_, fun _ _ r hr => ?_⟩
  · exact q _ _ (e1.trans e2) ⟨p', vs', ds', rfl, b1, b2, b3, by omega⟩
  · exact q _ _ (e1.trans e2) ⟨p, vs, ds, rfl, a1, a2, a3, by omega⟩
  · have s2 := st.keep _ _ s (e1.trans e2)
    have nr := st.new H2 r s2 hr
    have e3 := same_new' (o := .tup (vs ++ vs')) hr
    exact q _ _ ((e1.trans e2).trans e3) ⟨r, _, ds ++ ds', rfl, offs_of nr upd_same, (a2.app b2).to (offs_mono e3), fun d hd => (List.mem_append.mp hd).elim (a3 d) (b3 d), by rw [List.length_append]; omega⟩
theorem DtAll.drop {H : Hp} : ∀ (i : Nat) {vs : List V} {ds : List PyData}, DtAll H vs ds → DtAll H (vs.drop i) (ds.drop i)
  | 0, _, _, h => h
  | _ + 1, _, _, .nil => .nil
  | i + 1, _, _, .cons _ r => DtAll.drop i r
theorem DtAll.take {H : Hp} : ∀ (i : Nat) {vs : List V} {ds : List PyData}, DtAll H vs ds → DtAll H (vs.take i) (ds.take i)
  | 0, _, _, _ => .nil
  | _ + 1, _, _, .nil => .nil
  | i + 1, _, _, .cons h r => .cons h (DtAll.take i r)
theorem cut_data {H : Hp} {vs : List V} {ds : List PyData} (h : DtAll H vs ds) (lo hi : Option Int) : ∃ es : List PyData, DtAll H (cutV vs lo hi) es ∧ (∀ d ∈ es, d ∈ ds) ∧ es.length ≤ ds.length := by
  unfold cutV
  refine ⟨_, DtAll.take _ (DtAll.drop _ h), fun d hd => List.mem_of_mem_drop (List.mem_of_mem_take hd), ?_⟩
  rw [List.length_take, List.length_drop]
  omega
theorem Ev.cut (st : Stb l S) {te : TE} {lo hi : TO} (h : Ev S (LD l P n) te σ) (h1 : Evo S lo σ) (h2 : Evo S hi σ) : Ev S (LD l P n) (L2.tSl (rSlL K) te lo hi) σ := fun H Q s q => by
  refine h H _ s fun x H1 e1 p1 => h1 H1 _ (st.keep _ _ s e1) fun i H2 e2 => h2 H2 _ (st.keep _ _ s (e1.trans e2)) fun j H3 e3 => ?_
  obtain ⟨p, vs, ds, rfl, a1, a2, a3, a4⟩ := p1.same (e2.trans e3)
  refine ⟨p, vs, rfl, .inl (.inl (offs_at a1).2), fun r hr => ?_⟩
  have e4 := e1.trans (e2.trans e3)
  have nr := st.new H3 r (st.keep _ _ s e4) hr
  have e5 := same_new' (o := .lst (cutV vs i j)) hr
  obtain ⟨es, c1, c2, c3⟩ := cut_data a2 i j
  exact q _ _ (e4.trans e5) ⟨r, _, es, rfl, offs_of nr upd_same, c1.to (offs_mono e5), fun d hd => a3 d (c2 d hd), by omega⟩
theorem Ev.cutT (st : Stb l S) {te : TE} {lo hi : TO} (h : Ev S (TD l P n) te σ) (h1 : Evo S lo σ) (h2 : Evo S hi σ) : Ev S (TD l P n) (L2.tSl (rSlA K) te lo hi) σ := fun H Q s q => by
  refine h H _ s fun x H1 e1 p1 => h1 H1 _ (st.keep _ _ s e1) fun i H2 e2 => h2 H2 _ (st.keep _ _ s (e1.trans e2)) fun j H3 e3 => ?_
  obtain ⟨p, vs, ds, rfl, a1, a2, a3, a4⟩ := p1
  have e23 := e2.trans e3
  have a1 := offs_mono (l := l) e23 _ _ a1
  have a2 := a2.to (offs_mono e23)
  have e4 := e1.trans (e2.trans e3)
  refine ⟨p, vs, rfl, .inl (.inl (offs_at a1).2), fun _ => q _ _ e4 ⟨p, vs, ds, rfl, a1, a2, a3, a4⟩, fun _ r hr => ?_⟩
  have nr := st.new H3 r (st.keep _ _ s e4) hr
  have e5 := same_new' (o := .tup (cutV vs i j)) hr
  obtain ⟨es, c1, c2, c3⟩ := cut_data a2 i j
  exact q _ _ (e4.trans e5) ⟨r, _, es, rfl, offs_of nr upd_same, c1.to (offs_mono e5), fun d hd => a3 d (c2 d hd), by omega⟩
theorem Evo.no : Evo S tNoPart σ := fun H Q _ q => q _ H (Same.refl H)
/-- an int -/
def I : Fi := fun x _ => ∃ i : Int, x = .int i
theorem Ev.intI (i : Int) : Ev S I (tC (.int i)) σ := fun H Q _ q => q _ H (Same.refl H) ⟨i, rfl⟩
theorem Ev.varI {i : Nat} {j : Int} (h : σ[i]? = some (some (.int j))) : Ev S I (tVar i) σ := fun H Q s q => ⟨_, h, q _ H (Same.refl H) ⟨j, rfl⟩⟩
theorem Evo.some {te : TE} (h : Ev S I te σ) : Evo S (tPart te) σ := fun H Q s q => h H _ s fun x H1 e1 p => by
  obtain ⟨i, rfl⟩ := p
  exact ⟨i, rfl, q _ H1 e1⟩
theorem Ev.listL (st : Stb l S) {te : TE} (h : Ev S (LD l P n) te σ) : Ev S (LD l P n) (tCB (rListK K) (tCons te tNil)) σ := fun H Q s q => by
  refine h H _ s fun x H1 e1 p1 => ?_
  obtain ⟨p, vs, ds, rfl, a1, a2, a3, a4⟩ := p1
  refine ⟨p, vs, rfl, .inl (.inl (.inl (offs_at a1).2)), fun r hr => ?_⟩
  have nr := st.new H1 r (st.keep _ _ s e1) hr
  have e5 := same_new' (o := .lst vs) hr
  exact q _ _ (e1.trans e5) ⟨r, _, ds, rfl, offs_of nr upd_same, a2.to (offs_mono e5), a3, a4⟩
theorem Ev.listT (st : Stb l S) {te : TE} (h : Ev S (TD l P n) te σ) : Ev S (LD l P n) (tCB (rListK K) (tCons te tNil)) σ := fun H Q s q => by
  refine h H _ s fun x H1 e1 p1 => ?_
  obtain ⟨p, vs, ds, rfl, a1, a2, a3, a4⟩ := p1
  refine ⟨p, vs, rfl, .inr (.inl (.inl (offs_at a1).2)), fun r hr => ?_⟩
  have nr := st.new H1 r (st.keep _ _ s e1) hr
  have e5 := same_new' (o := .lst vs) hr
  exact q _ _ (e1.trans e5) ⟨r, _, ds, rfl, offs_of nr upd_same, a2.to (offs_mono e5), a3, a4⟩
theorem Ev.tupL (st : Stb l S) {te : TE} (h : Ev S (LD l P n) te σ) : Ev S (TD l P n) (tCB (rTupK K) (tCons te tNil)) σ := fun H Q s q => by
  refine h H _ s fun x H1 e1 p1 => ?_
  obtain ⟨p, vs, ds, rfl, a1, a2, a3, a4⟩ := p1
  refine ⟨p, vs, rfl, .inl ⟨.inl (.inl (offs_at a1).2), fun r hr => ?_⟩⟩
  have nr := st.new H1 r (st.keep _ _ s e1) hr
  have e5 := same_new' (o := .tup vs) hr
  exact q _ _ (e1.trans e5) ⟨r, _, ds, rfl, offs_of nr upd_same, a2.to (offs_mono e5), a3, a4⟩
theorem Ev.len {te : TE} (h : Ev S (LD l (Bnd k b) n) te σ) (hn : n ≤ 100000 := by decide) : Ev S (D l (Bnd k' b')) (tCB (rLenK K) (tCons te tNil)) σ := fun H Q s q => by
  refine h H _ s fun x H1 e1 p1 => ?_
  obtain ⟨p, vs, ds, rfl, a1, a2, a3, a4⟩ := p1
  have := a2.len
  exact ⟨p, vs, rfl, .inl (.inl (.inl (offs_at a1).2)), q _ _ e1 ⟨_, .int _, .int (by omega)⟩⟩
theorem Ev.rep (st : Stb l S) {ta : TE} {j : Nat} (h : Ev S (LD l P n) ta σ) (hj : n * j ≤ 100000 := by decide) (hj2 : j ≤ 1000 := by decide) : Ev S (LD l P (n * j)) (tOp rRep ta (tC (.int (j : Int)))) σ := fun H Q s q => by
  refine h H _ s fun x H1 e1 p1 => ?_
  obtain ⟨p, vs, ds, rfl, a1, a2, a3, a4⟩ := p1
  have hl := a2.len
  have hm : ds.length * j ≤ n * j := Nat.mul_le_mul_right j a4
  refine ⟨p, j, vs, rfl, rfl, (offs_at a1).2, by omega, by omega, by rw [hl, Int.toNat_natCast, sizeLine_eq]; omega, fun r hr => ?_⟩
  have nr := st.new H1 r (st.keep _ _ s e1) hr
  have e5 := same_new' (o := .lst (List.replicate (j : Int).toNat vs).flatten) hr
  have key : ∀ m : Nat, DtAll (offs l H1) (List.replicate m vs).flatten (List.replicate m ds).flatten := by
    intro m
    induction m with
    | zero => exact .nil
    | succ m ih =>
      rw [List.replicate_succ, List.replicate_succ, List.flatten_cons, List.flatten_cons]
      exact a2.app ih
  refine q _ _ (e1.trans e5) ⟨r, _, (List.replicate j ds).flatten, rfl, offs_of nr upd_same, ?_, fun d hd => ?_, ?_⟩
  · rw [Int.toNat_natCast]
    exact (key j).to (offs_mono (by rw [Int.toNat_natCast] at e5; exact e5))
  · obtain ⟨m, hm1, hm2⟩ := List.mem_flatten.mp hd
    rw [List.eq_of_mem_replicate hm1] at hm2
    exact a3 d hm2
  · rw [List.length_flatten, List.map_replicate, List.sum_replicate_nat, Nat.mul_comm]
    exact hm
end
end Hw
namespace Hw
open PySem PySem.Spec PyProof.Rows L2
/-! ### statements, read one by one -/
def iAt (J : It) : TI := fun _ H R => R J H
section
variable {K : PySem.W.Frag} {te : TE} {g : TG} {tb t u : TS} {d : Ends} {σ : L2.St} {H : Hp} {i : Nat}
theorem forL (h : te σ H fun x H1 => ∃ a, x = .ref a ∧ (∃ xs, SqL K H1 a xs) ∧ tFor (iAt (Itl K a)) g tb d σ H1) : tFor (iList K te) g tb d σ H := h
theorem seqL (h : t { d with nx := u d } σ H) : tSeq t u d σ H := h
theorem setL (h : te σ H fun x H1 => d.nx (σ.set i (some x)) H1) : tAsg te (gName i) d σ H := h
theorem setNil (h : ∀ p, H p = none → d.nx (σ.set i (some (.ref p))) (upd H p (.lst []))) : tAsg (tLst tNil) (gName i) d σ H := ⟨Nat.zero_le _, h⟩
theorem retL (h : te σ H d.rt) : tRet te d σ H := h
end
end Hw
namespace Hw
open PySem PySem.Spec PyProof.Rows L2
section
variable {X : Cx} {K : PySem.W.Frag}
theorem pi_enumK {e : Expr} {ta : TA} {p pos tpos : Pos} {elts : List Expr} {kk : Nat} (h : X.K = K) (hg : Gl X "enumerate") (hm : X.mg "enumerate" = none) (ha : PA X [e] ta) (hs : starEach [e] X.env = [(false, eval e X.env)] := by rfl) :
    PI X (.Tuple elts kk tpos) (.Call (.Name "enumerate" p) [e] [] pos) (iEnum K ta) := by
  subst h
  exact pi_enum hg hm ha hs
theorem pi_listK {tg : Expr} {l : Expr} {tl : TE} (h : X.K = K) (hl : PE X l tl) : PI X tg l (iList K tl) := by
  subst h
  exact pi_list hl
end
end Hw
namespace Hw
open PySem PySem.Spec PyProof.Rows L2
/-! ### literals, told exactly -/
def Ed (d : PyData) : Fi := fun x H => Dt H x d
def Eda (ds : List PyData) : List V → Hp → Prop := fun xs H => DtAll H xs ds
abbrev Tr : Hp → Prop := fun _ => True
section
variable {σ : L2.St} {ds : List PyData} {d : PyData} {te : TE} {ta : TA} {i j : Nat} {e : Ends} {H : Hp}
theorem Ev.eint (i : Int) : Ev Tr (Ed (.int i)) (tC (.int i)) σ := fun H Q _ q => q _ H (Same.refl H) (.int i)
theorem Ev.ebl (b : Bool) : Ev Tr (Ed (.bool b)) (tC (.bl b)) σ := fun H Q _ q => q _ H (Same.refl H) (.bl b)
theorem Ev.estr (x : Str) : Ev Tr (Ed (.str x)) (tC (.str x)) σ := fun H Q _ q => q _ H (Same.refl H) (.str x)
theorem Ev.enon : Ev Tr (Ed .none) (tC .non) σ := fun H Q _ q => q _ H (Same.refl H) .non
theorem Eva.enil : Eva Tr (Eda []) tNil σ := fun H Q _ q => q _ H (Same.refl H) .nil
theorem Eva.econs (h : Ev Tr (Ed d) te σ) (r : Eva Tr (Eda ds) ta σ) : Eva Tr (Eda (d :: ds)) (tCons te ta) σ := fun H Q s q => h H _ s fun x H1 e1 p1 => r H1 _ s fun xs H2 e2 p2 => q _ H2 (e1.trans e2) (.cons (Dt.to p1 e2) p2)
theorem Ev.elst (h : Eva Tr (Eda ds) ta σ) (hn : ds.length ≤ 100000 := by decide) : Ev Tr (Ed (.list ds)) (tLst ta) σ := fun H Q s q => h H _ s fun xs H1 e1 p1 => by
  have p1 : DtAll H1 xs ds := p1
  refine ⟨by rw [p1.len, sizeLine_eq]; omega, fun p hp => ?_⟩
  have e2 := same_new' (o := .lst xs) hp
  exact q _ _ (e1.trans e2) (Dt.lst upd_same (p1.to e2))
theorem Ev.etup (h : Eva Tr (Eda ds) ta σ) (hn : ds.length ≤ 100000 := by decide) : Ev Tr (Ed (.tuple ds)) (tTup ta) σ := fun H Q s q => h H _ s fun xs H1 e1 p1 => by
  have p1 : DtAll H1 xs ds := p1
  refine ⟨by rw [p1.len, sizeLine_eq]; omega, fun p hp => ?_⟩
  have e2 := same_new' (o := .tup xs) hp
  exact q _ _ (e1.trans e2) (Dt.tup upd_same (p1.to e2))
theorem parL (h : ta σ H fun vs H1 => ∃ v w, vs = [v, w] ∧ e.nx ((σ.set i (some v)).set j (some w)) H1) : tPar i j ta e σ H := h
theorem Dt.nats_at {x : V} {l : List Nat} (h : Dt H x (.list (natD l))) : ∃ a, x = .ref a ∧ H a = some (.lst (natV l)) := by
  cases h with
  | @lst a xs _ ha hs =>
    have e := DtAll.nats_inv _ _ hs
    subst e
    exact ⟨a, rfl, ha⟩
theorem natV_rep (n x : Nat) : (List.replicate n [V.int (x : Int)]).flatten = natV (List.replicate n x) := by
  unfold natV
  rw [List.map_replicate]
  induction n with
  | zero => rfl
  | succ n ih => rw [List.replicate_succ, List.flatten_cons, ih, List.replicate_succ]; rfl
theorem natV_rep2 (n x y : Nat) : (List.replicate n [V.int (x : Int), .int (y : Int)]).flatten = natV (List.replicate n [x, y]).flatten := by
  unfold natV
  rw [List.map_flatten, List.map_replicate]
  rfl
end
end Hw

set_option Elab.async false
set_option linter.all false
set_option maxRecDepth 100000
set_option maxHeartbeats 4000000
/-! sorted of lists of ints, any number of them -/
namespace Hw
open PySem PySem.Spec PyProof.Rows L2
/-- l before m, number by number -/
def lexI : List Int → List Int → Bool
  | [], [] => false
  | [], _ :: _ => true
  | _ :: _, [] => false
  | x :: l, y :: m => if x = y then lexI l m else decide (x < y)
theorem lexI_irr : ∀ l, lexI l l = false
  | [] => rfl
  | x :: l => by rw [lexI, if_pos rfl]; exact lexI_irr l
theorem toks_lex : ∀ l m : List Int, PyProof.Rows.lexLt itemOrd (PySem.W.keyToksAll (l.map PyData.int)) (PySem.W.keyToksAll (m.map PyData.int)) = lexI l m
  | [], [] => by decide +kernel
  | [], y :: m => by
    simp only [List.map_nil, List.map_cons, PySem.W.keyToksAll, PySem.W.keyToks, lexI]
    rw [lex_diff (O := itemOrd) (by simp)]
    rfl
  | x :: l, [] => by
    simp only [List.map_nil, List.map_cons, PySem.W.keyToksAll, PySem.W.keyToks, lexI]
    rw [lex_diff (O := itemOrd) (by simp)]
    rfl
  | x :: l, y :: m => by
    have ih := toks_lex l m
    simp only [List.map_nil, List.map_cons, PySem.W.keyToksAll, PySem.W.keyToks, lexI]
    rw [lex_self (O := itemOrd)]
    show PyProof.Rows.lexLt itemOrd (Sum.inl x :: PySem.W.keyToksAll (l.map PyData.int)) (Sum.inl y :: PySem.W.keyToksAll (m.map PyData.int)) = _
    by_cases h : x = y
    · subst h
      rw [lex_self (O := itemOrd), if_pos rfl, ih]
    · rw [lex_diff (O := itemOrd) (fun z => h (Sum.inl.inj z)), if_neg h]
      rfl
theorem lt_lists (l m : List Int) : PySem.W.dataLt (.list (l.map PyData.int)) (.list (m.map PyData.int)) = lexI l m := by
  rw [PySem.W.dataLt_list, toks_lex]
theorem alike_ints : ∀ l m : List Int, PySem.W.alikeAll (l.map PyData.int) (m.map PyData.int) = true
  | [], _ => by simp only [List.map_nil, PySem.W.alikeAll]
  | x :: l, [] => by simp only [List.map_nil, List.map_cons, PySem.W.alikeAll]
  | x :: l, y :: m => by simp only [List.map_cons, PySem.W.alikeAll, PySem.W.alike, alike_ints l m, Bool.and_self]
theorem swo_lexI (k : Value → List Int) : SrtO.Swo fun v u => lexI (k v) (k u) := by
  refine ⟨fun x y h => ?_, fun x y z h1 h2 => ?_⟩
  · rw [← toks_lex] at h ⊢
    cases z : PyProof.Rows.lexLt itemOrd (PySem.W.keyToksAll ((k y).map PyData.int)) (PySem.W.keyToksAll ((k x).map PyData.int)) with
    | false => rfl
    | true =>
      have := lex_trans _ _ _ h z
      rw [lex_irrefl] at this
      cases this
  · rw [← toks_lex] at h1 h2 ⊢
    cases z' : PyProof.Rows.lexLt itemOrd (PySem.W.keyToksAll ((k z).map PyData.int)) (PySem.W.keyToksAll ((k x).map PyData.int)) with
    | false => rfl
    | true =>
      rcases lex_negTrans _ (PySem.W.keyToksAll ((k y).map PyData.int)) _ z' with a | a
      · rw [a] at h2; cases h2
      · rw [a] at h1; cases h1
/-- a list of ints in the heap -/
def IsLI (h : Heap) (v : Value) (l : List Int) : Prop := ∃ (b : Addr) (o : Obj) (its : List Value) (n : Nat), v = .ref b ∧ h.get? b = some o ∧ o.cls = .type "list" ∧ o.data = .seq its.toArray n ∧ IntsAre its l
theorem reads_ints {h : Heap} : ∀ {its : List Value} {l : List Int}, IntsAre its l → ReadsAll h its (l.map PyData.int) []
  | _, _, .nil => ReadsAll.nil
  | _, _, .cons n t r => ReadsAll.cons (as := []) (bs := []) (.int n t) (reads_ints r)
theorem IsLI.reads {h : Heap} {v : Value} {l : List Int} (i : IsLI h v l) : ∃ as, Reads h v (.list (l.map PyData.int)) as := by
  obtain ⟨b, o, its, n, rfl, ho, hc, hd, hi⟩ := i
  exact ⟨_, Reads.list ho hc hd (by simpa using reads_ints hi)⟩
section
variable {prog : Program} {w : World} {A : Around} {s : Shared}
theorem depth_ints (l : List Int) : (PyData.list (l.map PyData.int)).depth ≤ 2 := by
  have := depthAll_le (n := 1) (l.map PyData.int) fun x hx => by
    obtain ⟨i, _, rfl⟩ := List.mem_map.mp hx
    simp only [PyData.depth]; omega
  simp only [PyData.depth]; omega
theorem lists_sortableO {a : Addr} {vs : List Value} {k : Value → List Int} (h2 : 2 ≤ vs.length) (hp : ∀ v ∈ vs, IsLI s.heap v (k v)) (ha : ∀ v ∈ vs, v ≠ .ref a) (hu : A.units + 2 < cLine) : SrtO.SortableO prog w A s a vs fun v u => lexI (k v) (k u) := by
  intro h' keep
  have hp' : ∀ v ∈ vs, IsLI h' v (k v) := fun v hm => by
    obtain ⟨b, o, its, n, e, ho, rest⟩ := hp v hm
    exact ⟨b, o, its, n, e, keep b o (fun z => ha v hm (by rw [e, z])) ho, rest⟩
  refine ⟨oneType', fun Q E hq => ?_, fun p q hm hm' => ?_⟩
  · refine PySem.W.kas_kind (T := .type "list") h2 (fun v hm => ?_) (by decide +kernel) (by decide +kernel) hq
    obtain ⟨b, o, its, n, e, ho, hc, _⟩ := hp' v hm
    subst e
    exact fun A Q E s k hQ => wpAny_typeOf ⟨o, k _ _ ho, hc⟩ hQ
  · show wpAny (model prog w) A (keyLt' oneType' p.1 q.1) (fun r s' => s' = _ ∧ r = lexI (k p.1) (k q.1)) (fun _ _ => False) _
    obtain ⟨as, ra⟩ := (hp' _ hm).reads
    obtain ⟨bs, rb⟩ := (hp' _ hm').reads
    rw [keyLt'_oneType]
    refine PySem.W.oneLt_alike (fun _ xs z => by cases z) (s := { s with heap := h' }) ra rb (by simp only [PySem.W.alike, alike_ints]) (fun z => by cases z) ?_ ⟨rfl, lt_lists _ _⟩
    have := depth_ints (k p.1)
    omega
end
def kA (k : Addr → List Int) : Value → List Int
  | .ref b => k b
  | _ => []
section
variable {X : Cx}
/-- sorted(xs), lists of ints, any number of them -/
def rSortedL (K : PySem.W.Frag) : List V → Hp → VK → Prop := fun vs H Q => ∃ (a : Addr) (ps : List Addr) (k : Addr → List Int), vs = [V.ref a] ∧ SqL K H a (ps.map V.ref) ∧ (∀ p ∈ ps, H p = some (.lst ((k p).map V.int))) ∧
  ∀ (qs : List Addr) (p : Addr), qs.Perm ps → qs.Pairwise (fun x y => lexI (k y) (k x) = false) → H p = none → Q (.ref p) (upd H p (.lst (qs.map V.ref)))
theorem refs_of : ∀ {ps : List Addr} {us : List Value}, Vals (ps.map V.ref) us → us = ps.map Value.ref
  | [], _, r => by cases r; rfl
  | p :: ps, _, r => by
    cases r with
    | cons h t =>
      have h : _ = Value.ref p := h
      rw [h, refs_of t]
      rfl
theorem vals_refs : ∀ ps : List Addr, Vals (ps.map V.ref) (ps.map Value.ref)
  | [] => .nil
  | p :: ps => .cons rfl (vals_refs ps)
theorem cr_sortedL (hu : X.A.units + 64 < cLine) : CallR X (.builtin "sorted") (rSortedL X.K) := by
  intro pins s σ H vs us Q I r h
  obtain ⟨a, ps, k, rfl, hs, hk, q⟩ := h
  obtain ⟨items, rv, isl, most⟩ := I.list hs
  rw [Vals.ref1 r]
  have e := refs_of rv
  subst e
  have hL : ∀ v ∈ ps.map Value.ref, IsLI s.heap v (kA k v) := fun v hv => by
    obtain ⟨p, hp, rfl⟩ := List.mem_map.mp hv
    obtain ⟨its, rv2, ⟨o, n, ho, hc, _, hd⟩, _⟩ := I.list (X := X) (show SqL X.K H p _ from .inl (.inl (hk p hp)))
    exact ⟨p, o, its, n, rfl, ho, hc, hd, rv2.ints⟩
  refine SrtO.sorted_ord (swo_lexI (kA k)) isl.isList (by rw [← rv.length]; exact most) (fun h2 h₁ a' _ kk => ?_) fun out h1 h2 => ?_
  · refine lists_sortableO h2 (fun v hv => ?_) (fun v hv => ?_) ?_
    · obtain ⟨b, o, its, n, e, ho, rest⟩ := hL v hv
      exact ⟨b, o, its, n, e, (kk b o ho).2, rest⟩
    · obtain ⟨b, o, its, n, e, ho, rest⟩ := hL v hv
      rw [e]
      exact fun z => (kk b o ho).1 (Value.ref.inj z)
    · show X.A.units + 1 + 1 + 2 < cLine
      omega
  obtain ⟨ep, he'⟩ := PyProof.Rows.sortedAll_at s.heap (ps.map Value.ref) out.toArray
  obtain ⟨qs, e, pq⟩ : ∃ qs : List Addr, out = qs.map Value.ref ∧ qs.Perm ps := by
    let b : Value → Addr := fun v => match v with | .ref x => x | _ => 0
    have hb : (ps.map Value.ref).map b = ps := by rw [List.map_map]; exact List.map_id _
    refine ⟨out.map b, ?_, by have := h2.perm.map b; rwa [hb] at this⟩
    have : ∀ v ∈ out, Value.ref (b v) = v := fun v hv => by
      obtain ⟨p, _, rfl⟩ := List.mem_map.mp (h2.perm.mem_iff.mp hv)
      rfl
    rw [List.map_map]
    exact (List.map_id out).symm.trans (List.map_congr_left fun v hv => (this v hv).symm)
  subst e
  have hlen : (qs.map V.ref).length ≤ sizeLine := by
    rw [List.length_map, pq.length_eq]
    rw [List.length_map] at most
    exact most
  refine ⟨.ref _, upd H (s.heap.objs.size + 1) (.lst (qs.map V.ref)), I.laid (t' := s.toks) (fun _ _ => PyProof.Rows.sortedAll_old) (Nat.le_succ _) ⟨hlen, qs.map Value.ref, ep, vals_refs qs, he'⟩, rfl, q _ _ pq ?_ (I.hok.fresh (Nat.le_succ _))⟩
  have h1 : (qs.map Value.ref).Pairwise _ := h1
  rw [List.pairwise_map] at h1
  exact h1
end
end Hw

set_option Elab.async false
set_option linter.all false
set_option maxRecDepth 100000
set_option maxHeartbeats 4000000
/-! the binary text of a number: its figures from behind are its bits -/
namespace Hw
open PySem PySem.Spec PyProof.Rows L2
def binL (n : Nat) : List Nat := (Nat.toDigits 2 n).map Char.toNat
def binT (n : Nat) : Str := ⟨(binL n).toArray⟩
theorem digit2 : ∀ n, n < 2 → (Nat.digitChar n).toNat = 48 + n := by decide
theorem revB_lt {n : Nat} (h : n < 2) : (binL n).reverse = [48 + n] := by
  unfold binL
  rw [Nat.toDigits_of_lt_base h, List.map_cons, digit2 n h]
  rfl
theorem revB_ge {n : Nat} (h : 2 ≤ n) : (binL n).reverse = (48 + n % 2) :: (binL (n / 2)).reverse := by
  unfold binL
  rw [Nat.toDigits_of_base_le (by decide) h, List.map_append, List.reverse_append, List.map_cons, digit2 _ (Nat.mod_lt _ (by decide))]
  rfl
/-- the figure at i from behind -/
def figB (n i : Nat) : Nat := 48 + (if n.testBit i then 1 else 0)
theorem fig0 (n : Nat) : figB n 0 = 48 + n % 2 := by
  unfold figB
  rw [Nat.testBit_zero]
  by_cases h : n % 2 = 1
  · rw [if_pos (by simpa using h)]; omega
  · rw [if_neg (by simpa using h)]; omega
theorem revB_get : ∀ n i, i < (binL n).reverse.length → (binL n).reverse[i]? = some (figB n i) := by
  intro n
  induction n using Nat.strongRecOn with
  | _ n ih =>
    intro i hi
    by_cases h : n < 2
    · rw [revB_lt h] at hi ⊢
      have : i = 0 := by simpa using hi
      subst this
      rw [fig0, show n % 2 = n by omega]
      rfl
    · rw [revB_ge (by omega)] at hi ⊢
      cases i with
      | zero => rw [fig0]; rfl
      | succ i =>
        have hi : i < (binL (n / 2)).reverse.length := by simpa using hi
        show (binL (n / 2)).reverse[i]? = _
        rw [ih (n / 2) (by omega) i hi]
        unfold figB
        rw [Nat.testBit_succ]
theorem revB_high : ∀ n i, (binL n).reverse.length ≤ i → n.testBit i = false := by
  intro n
  induction n using Nat.strongRecOn with
  | _ n ih =>
    intro i hi
    by_cases h : n < 2
    · rw [revB_lt h] at hi
      have hi : 1 ≤ i := hi
      obtain ⟨j, rfl⟩ : ∃ j, i = j + 1 := ⟨i - 1, by omega⟩
      rw [Nat.testBit_succ, show n / 2 = 0 by omega, Nat.zero_testBit]
    · rw [revB_ge (by omega), List.length_cons] at hi
      obtain ⟨j, rfl⟩ : ∃ j, i = j + 1 := ⟨i - 1, by omega⟩
      rw [Nat.testBit_succ]
      exact ih (n / 2) (by omega) j (by omega)
theorem revB_len : ∀ k n, n < 2 ^ (k + 1) → (binL n).reverse.length ≤ k + 1 := by
  intro k
  induction k with
  | zero =>
    intro n h
    rw [revB_lt (by simpa using h)]
    exact Nat.le_refl _
  | succ k ih =>
    intro n h
    by_cases h2 : n < 2
    · rw [revB_lt h2]
      show 1 ≤ _
      omega
    · rw [revB_ge (by omega), List.length_cons]
      have := ih (n / 2) (by rw [Nat.pow_succ] at h; omega)
      omega
theorem rev_eq (n : Nat) : (binL n).reverse = (List.range (binL n).reverse.length).map (figB n) := by
  refine List.ext_getElem? fun i => ?_
  by_cases h : i < (binL n).reverse.length
  · rw [revB_get n i h, List.getElem?_map, List.getElem?_range h]
    rfl
  · rw [List.getElem?_eq_none (by omega), List.getElem?_eq_none (by rw [List.length_map, List.length_range]; omega)]
/-- the places of the bits, below k -/
def bitsN (k n : Nat) : List Nat := (List.range k).filter n.testBit
theorem bits_more {n k : Nat} : ∀ m, k ≤ m → (∀ i, k ≤ i → n.testBit i = false) → bitsN m n = bitsN k n
  | 0, h, _ => by rw [show k = 0 by omega]
  | m + 1, h, hn => by
    by_cases e : k = m + 1
    · rw [e]
    · unfold bitsN
      rw [List.range_succ, List.filter_append, List.filter_cons_of_neg (by rw [hn m (by omega)]; decide), List.filter_nil, List.append_nil]
      exact bits_more m (by omega) hn
end Hw

set_option Elab.async false
set_option linter.all false
set_option maxRecDepth 100000
set_option maxHeartbeats 4000000
/-! rules with the written part named; in of data; & and | of numbers from 0 on -/
namespace Hw
open PySem PySem.Spec PyProof.Rows L2
theorem bnot_bnot (x : Int) : Builtin.bitNot (Builtin.bitNot x) = x := by unfold Builtin.bitNot; omega
theorem band_nat (a b : Nat) : Builtin.bitAnd (a : Int) (b : Int) = ((a &&& b : Nat) : Int) := by
  unfold Builtin.bitAnd
  rw [decide_eq_true (Int.natCast_nonneg a), decide_eq_true (Int.natCast_nonneg b)]
  rfl
theorem bor_nat (a b : Nat) : Builtin.bitOr (a : Int) (b : Int) = ((a ||| b : Nat) : Int) := by
  unfold Builtin.bitOr
  have h : ∀ n : Nat, decide ((0 : Int) ≤ Builtin.bitNot (n : Int)) = false := fun n => decide_eq_false (by unfold Builtin.bitNot; omega)
  have e : Builtin.bitAnd (Builtin.bitNot (a : Int)) (Builtin.bitNot (b : Int)) = Builtin.bitNot ((((Builtin.bitNot (Builtin.bitNot (a : Int))).toNat ||| (Builtin.bitNot (Builtin.bitNot (b : Int))).toNat) : Nat) : Int) := by
    conv => lhs; unfold Builtin.bitAnd
    rw [h a, h b]
  rw [e, bnot_bnot, bnot_bnot, bnot_bnot]
  rfl
section
variable {X : Cx} {K : PySem.W.Frag}
theorem cr_anyK (h : X.K = K) (hc : X.calm = true) : CallR X (.builtin "any") (rAny K) := by subst h; exact cr_any hc
theorem op_inK (h : X.K = K) : OpR X (compareOp .In) (rIn K false) := by subst h; exact op_in_seq
theorem op_notInK (h : X.K = K) : OpR X (compareOp .NotIn) (rIn K true) := by subst h; exact op_notIn_seq
theorem pi_zipK {e e2 : Expr} {ta : TA} {p pos tpos : Pos} {elts : List Expr} {kk : Nat} (h : X.K = K) (hg : Gl X "zip") (hm : X.mg "zip" = none) (ha : PA X [e, e2] ta)
    (hs : starEach [e, e2] X.env = (false, eval e X.env) :: starEach [e2] X.env := by rfl) (hpl : (backTo pos (starEach [e2] X.env)).any (·.1) = false := by rfl) : PI X (.Tuple elts kk tpos) (.Call (.Name "zip" p) [e, e2] [] pos) (iZip K ta) := by
  subst h
  exact pi_zip hg hm ha hs hpl
def rNotInT : R2 := fun x y H Q => ∃ d ds, Dt H x d ∧ Dt H y (.list ds) ∧ SeqAt.shaped d = true ∧ SeqAt.shaped (.list ds) = true ∧ Q (.bl (!ds.any fun z => PyData.eqv z d)) H
def rInT : R2 := fun x y H Q => ∃ d ds, Dt H x d ∧ Dt H y (.list ds) ∧ SeqAt.shaped d = true ∧ SeqAt.shaped (.list ds) = true ∧ Q (.bl (ds.any fun z => PyData.eqv z d)) H
theorem op_notInT (hu : X.A.units + 65 < cLine) : OpR X (compareOp .NotIn) rNotInT := by
  intro pins s σ H x y v u Q I rx ry h
  obtain ⟨d, ds, hd, he, sd, se, q⟩ := h
  obtain ⟨as, r1, _⟩ := Dt.reads I d x v hd rx
  obtain ⟨bs, r2, _⟩ := Dt.reads I (.list ds) y u he ry
  exact SeqAt.notIn_list_reads r2 r1 (SeqAt.canLay_of_shaped se) (SeqAt.canLay_of_shaped sd) (PyProof.Rows.room_in_shaped sd hu) ⟨.bl _, H, I, rfl, q⟩
theorem op_inT (hu : X.A.units + 65 < cLine) : OpR X (compareOp .In) rInT := by
  intro pins s σ H x y v u Q I rx ry h
  obtain ⟨d, ds, hd, he, sd, se, q⟩ := h
  obtain ⟨as, r1, _⟩ := Dt.reads I d x v hd rx
  obtain ⟨bs, r2, _⟩ := Dt.reads I (.list ds) y u he ry
  exact SeqAt.in_list_reads r2 r1 (SeqAt.canLay_of_shaped se) (SeqAt.canLay_of_shaped sd) (PyProof.Rows.room_in_shaped sd hu) ⟨.bl _, H, I, rfl, q⟩
theorem units1 {k : Nat} {A : Around} (r : Room k A) : A.units + 65 < cLine := by have := r.un; omega
end
end Hw

set_option Elab.async false
set_option linter.all false
set_option maxRecDepth 100000
set_option maxHeartbeats 4000000
namespace Hw
/-! ### lots told by numbers: the least ones that meet all of a list -/
def subM (a b : Nat) : Prop := ∀ i, a.testBit i = true → b.testBit i = true
theorem subM.refl (a : Nat) : subM a a := fun _ h => h
theorem subM.trans {a b c : Nat} (h : subM a b) (k : subM b c) : subM a c := fun i z => k i (h i z)
theorem subM.le {a b : Nat} (h : subM a b) : a ≤ b := Nat.le_of_testBit h
theorem subM.anti {a b : Nat} (h : subM a b) (k : subM b a) : a = b := Nat.le_antisymm h.le k.le
theorem hit_iff {a b : Nat} : 0 < a &&& b ↔ ∃ i, a.testBit i = true ∧ b.testBit i = true := by
  constructor
  · intro h
    obtain ⟨i, hi⟩ := Nat.exists_testBit_of_ne_zero (show a &&& b ≠ 0 by omega)
    rw [Nat.testBit_and, Bool.and_eq_true] at hi
    exact ⟨i, hi⟩
  · rintro ⟨i, h1, h2⟩
    refine Nat.pos_of_ne_zero fun z => ?_
    have e : (a &&& b).testBit i = true := by rw [Nat.testBit_and, h1, h2]; rfl
    rw [z, Nat.zero_testBit] at e
    cases e
def allHit (C : List Nat) (m : Nat) : Prop := ∀ c ∈ C, 0 < m &&& c
instance (C : List Nat) (m : Nat) : Decidable (allHit C m) := inferInstanceAs (Decidable (∀ c ∈ C, 0 < m &&& c))
theorem allHit.mono {C : List Nat} {l m : Nat} (s : subM l m) (h : allHit C l) : allHit C m := fun c hc => by
  obtain ⟨i, h1, h2⟩ := hit_iff.mp (h c hc)
  exact hit_iff.mpr ⟨i, s i h1, h2⟩
theorem sub_bit : ∀ (i m : Nat), m.testBit i = true → 2 ^ i ≤ m ∧ ∀ j, (m - 2 ^ i).testBit j = (m.testBit j && decide (j ≠ i))
  | 0, m, h => by
    have h1 : m % 2 = 1 := by simpa [Nat.testBit_zero] using h
    refine ⟨by rw [Nat.pow_zero]; omega, fun j => ?_⟩
    rw [Nat.pow_zero]
    cases j with
    | zero =>
      rw [Nat.testBit_zero, decide_eq_false (by omega), decide_eq_false (by omega), Bool.and_false]
    | succ j => rw [Nat.testBit_succ, Nat.testBit_succ, show (m - 1) / 2 = m / 2 by omega, decide_eq_true (by omega), Bool.and_true]
  | i + 1, m, h => by
    rw [Nat.testBit_succ] at h
    obtain ⟨h1, h2⟩ := sub_bit i (m / 2) h
    have e : (2 : Nat) ^ (i + 1) = 2 * 2 ^ i := by rw [Nat.pow_succ, Nat.mul_comm]
    refine ⟨by omega, fun j => ?_⟩
    cases j with
    | zero =>
      rw [Nat.testBit_zero, Nat.testBit_zero, decide_eq_true (show 0 ≠ i + 1 by omega), Bool.and_true, show (m - 2 ^ (i + 1)) % 2 = m % 2 by omega]
    | succ j =>
      rw [Nat.testBit_succ, Nat.testBit_succ, show (m - 2 ^ (i + 1)) / 2 = m / 2 - 2 ^ i by omega, h2 j]
      congr 1
      by_cases z : j = i
      · rw [decide_eq_false (by omega), decide_eq_false (by omega)]
      · rw [decide_eq_true (by omega), decide_eq_true (by omega)]
def LeastM (C : List Nat) (m : Nat) : Prop := allHit C m ∧ ∀ i, m.testBit i = true → ¬ allHit C (m - 2 ^ i)
theorem less_sub {i m : Nat} (h : m.testBit i = true) : subM (m - 2 ^ i) m := fun j hj => by
  rw [(sub_bit i m h).2 j, Bool.and_eq_true] at hj
  exact hj.1
theorem leastM_iff {C : List Nat} {m : Nat} : LeastM C m ↔ allHit C m ∧ ∀ l, allHit C l → subM l m → l = m := by
  constructor
  · rintro ⟨h1, h2⟩
    refine ⟨h1, fun l hl hs => hs.anti fun i hi => ?_⟩
    cases hli : l.testBit i with
    | true => rfl
    | false =>
      refine (h2 i hi (hl.mono fun j hj => ?_)).elim
      rw [(sub_bit i m hi).2 j, hs j hj, decide_eq_true (show j ≠ i from fun z => by rw [z, hli] at hj; cases hj)]
      rfl
  · rintro ⟨h1, h2⟩
    refine ⟨h1, fun i hi hh => ?_⟩
    have e := h2 _ hh (less_sub hi)
    have p : 0 < 2 ^ i := Nat.pow_pos (by decide)
    have := (sub_bit i m hi).1
    omega
theorem exists_least {C : List Nat} : ∀ m, allHit C m → ∃ l, LeastM C l ∧ subM l m := by
  intro m
  induction m using Nat.strongRecOn with
  | _ m ih =>
    intro h
    by_cases hz : ∃ i, m.testBit i = true ∧ allHit C (m - 2 ^ i)
    · obtain ⟨i, hi, hh⟩ := hz
      have p : 0 < 2 ^ i := Nat.pow_pos (by decide)
      have := (sub_bit i m hi).1
      obtain ⟨l, h1, h2⟩ := ih (m - 2 ^ i) (by omega) hh
      exact ⟨l, h1, h2.trans (less_sub hi)⟩
    · exact ⟨m, ⟨h, fun i hi hh => hz ⟨i, hi, hh⟩⟩, .refl m⟩
theorem lt_of_bits {n m : Nat} (h : ∀ i, m.testBit i = true → i < n) : m < 2 ^ n :=
  Nat.lt_pow_two_of_testBit m fun i hi => by
    cases e : m.testBit i with
    | false => rfl
    | true => have := h i e; omega
theorem bit_lt {n m i : Nat} (h : m < 2 ^ n) (hi : m.testBit i = true) : i < n := by
  refine Nat.lt_of_not_le fun z => ?_
  rw [Nat.testBit_lt_two_pow (Nat.lt_of_lt_of_le h (Nat.pow_le_pow_right (by decide) z))] at hi
  cases hi
/-- what meets all least lots that meet all of C holds one of C -/
theorem cross_hit {n : Nat} {C T : List Nat} (hC : ∀ c ∈ C, c < 2 ^ n) (hT : ∀ t, t ∈ T ↔ t < 2 ^ n ∧ LeastM C t) (m : Nat) : allHit T m ↔ ∃ c ∈ C, subM c m := by
  constructor
  · intro h
    refine Classical.byContradiction fun z => ?_
    have bm : ∀ i, (2 ^ n - (m % 2 ^ n + 1)).testBit i = (decide (i < n) && !m.testBit i) := fun i => by
      rw [Nat.testBit_two_pow_sub_succ (Nat.mod_lt _ (Nat.pow_pos (by decide))), Nat.testBit_mod_two_pow]
      by_cases hi : i < n
      · simp [hi]
      · simp [hi]
    have ha : allHit C (2 ^ n - (m % 2 ^ n + 1)) := fun c hc => by
      refine hit_iff.mpr (Classical.byContradiction fun y => z ⟨c, hc, fun i hi => ?_⟩)
      cases hmi : m.testBit i with
      | true => rfl
      | false => exact (y ⟨i, by rw [bm, decide_eq_true (bit_lt (hC c hc) hi), hmi]; rfl, hi⟩).elim
    obtain ⟨t, h1, h2⟩ := exists_least _ ha
    have ht : t < 2 ^ n := lt_of_bits fun i hi => by
      have := h2 i hi
      rw [bm, Bool.and_eq_true, decide_eq_true_eq] at this
      exact this.1
    obtain ⟨i, i1, i2⟩ := hit_iff.mp (h t ((hT t).mpr ⟨ht, h1⟩))
    have := h2 i i2
    rw [bm, i1, Bool.not_true, Bool.and_false] at this
    cases this
  · rintro ⟨c, hc, hs⟩ t ht
    obtain ⟨i, i1, i2⟩ := hit_iff.mp (((hT t).mp ht).2.1 c hc)
    exact hit_iff.mpr ⟨i, hs i i2, i1⟩
theorem cross_least {n : Nat} {C T : List Nat} (hC : ∀ c ∈ C, c < 2 ^ n) (hT : ∀ t, t ∈ T ↔ t < 2 ^ n ∧ LeastM C t) (m : Nat) : LeastM T m ↔ m ∈ C ∧ ∀ c ∈ C, subM c m → c = m := by
  rw [leastM_iff]
  constructor
  · rintro ⟨h1, h2⟩
    obtain ⟨c, hc, hs⟩ := (cross_hit hC hT m).mp h1
    have k : ∀ c ∈ C, subM c m → c = m := fun c hc hs => h2 c ((cross_hit hC hT c).mpr ⟨c, hc, .refl c⟩) hs
    have e := k c hc hs
    exact ⟨e ▸ hc, k⟩
  · rintro ⟨h1, h2⟩
    refine ⟨(cross_hit hC hT m).mpr ⟨m, h1, .refl m⟩, fun l hl hs => ?_⟩
    obtain ⟨c, hc, hcs⟩ := (cross_hit hC hT l).mp hl
    have e := h2 c hc (hcs.trans hs)
    exact hs.anti (e ▸ hcs)
/-! ### lots as lists -/
theorem mem_bits {k n x : Nat} : x ∈ bitsN k n ↔ x < k ∧ n.testBit x = true := by
  unfold bitsN
  rw [List.mem_filter, List.mem_range]
theorem bits_inj {k a b : Nat} (ha : a < 2 ^ k) (hb : b < 2 ^ k) (h : bitsN k a = bitsN k b) : a = b := by
  have key : ∀ {a b}, a < 2 ^ k → bitsN k a = bitsN k b → subM a b := fun ha h i hi => by
    have m := mem_bits.mpr ⟨bit_lt ha hi, hi⟩
    rw [h] at m
    exact (mem_bits.mp m).2
  exact (key ha h).anti (key hb h.symm)
def maskN (l : List Nat) : Nat := l.foldl (fun a x => a ||| 2 ^ x) 0
theorem mask_bit (i : Nat) : ∀ (l : List Nat) (a : Nat), (l.foldl (fun a x => a ||| 2 ^ x) a).testBit i = (a.testBit i || decide (i ∈ l))
  | [], a => by simp
  | x :: l, a => by
    rw [List.foldl_cons, mask_bit i l, Nat.testBit_or, Nat.testBit_two_pow, Bool.or_assoc]
    congr 1
    by_cases h : x = i
    · subst h; simp
    · rw [decide_eq_false h, Bool.false_or]
      have : (i ∈ x :: l) ↔ i ∈ l := by
        rw [List.mem_cons]
        exact ⟨fun z => z.elim (fun z => (h z.symm).elim) id, .inr⟩
      simp only [this]
theorem mask_bits {k n : Nat} (h : n < 2 ^ k) : maskN (bitsN k n) = n := by
  refine Nat.eq_of_testBit_eq fun i => ?_
  unfold maskN
  rw [mask_bit, Nat.zero_testBit, Bool.false_or]
  cases e : n.testBit i with
  | true => exact decide_eq_true (mem_bits.mpr ⟨bit_lt h e, e⟩)
  | false => exact decide_eq_false fun z => by rw [(mem_bits.mp z).2] at e; cases e
theorem bits_low {k n : Nat} (h : n < 2 ^ k) : bitsN (k + 1) n = bitsN k n := by
  unfold bitsN
  rw [List.range_succ, List.filter_append, List.filter_cons_of_neg (by rw [Nat.testBit_lt_two_pow h]; decide), List.filter_nil, List.append_nil]
theorem bits_high {k n : Nat} (h : n < 2 ^ k) : bitsN (k + 1) (2 ^ k + n) = bitsN k n ++ [k] := by
  unfold bitsN
  rw [List.range_succ, List.filter_append, List.filter_cons_of_pos (by rw [Nat.testBit_two_pow_add_eq, Nat.testBit_lt_two_pow h]; rfl), List.filter_nil]
  congr 1
  refine List.filter_congr fun x hx => ?_
  rw [Nat.testBit_two_pow_add_gt (List.mem_range.mp hx)]
theorem lots_more (k : Nat) : ((List.range (2 ^ k)).map (bitsN k)) ++ ((List.range (2 ^ k)).map (bitsN k)).map (· ++ [k]) = (List.range (2 ^ (k + 1))).map (bitsN (k + 1)) := by
  rw [Nat.pow_succ, Nat.mul_two, List.range_add, List.map_append, List.map_map, List.map_map]
  congr 1
  · refine List.map_congr_left fun x hx => (bits_low (List.mem_range.mp hx)).symm
  · refine List.map_congr_left fun x hx => (bits_high (List.mem_range.mp hx)).symm
theorem bits_asc (k n : Nat) : (bitsN k n).Pairwise (· < ·) := (List.pairwise_lt_range).filter _
theorem bits_len (k n : Nat) : (bitsN k n).length ≤ k := by
  have := List.length_filter_le n.testBit (List.range k)
  rwa [List.length_range] at this
/-- low within high -/
def inL (l h : List Nat) : Bool := l.all fun x => h.contains x
theorem inL_iff {k a b : Nat} (ha : a < 2 ^ k) : inL (bitsN k a) (bitsN k b) = true ↔ subM a b := by
  unfold inL
  rw [List.all_eq_true]
  constructor
  · intro h i hi
    have := h i (mem_bits.mpr ⟨bit_lt ha hi, hi⟩)
    rw [List.contains_iff_mem] at this
    exact (mem_bits.mp this).2
  · intro h x hx
    obtain ⟨h1, h2⟩ := mem_bits.mp hx
    rw [List.contains_iff_mem]
    exact mem_bits.mpr ⟨h1, h x h2⟩
/-- a number in common -/
def meetL (o l : List Nat) : Bool := o.any fun x => l.contains x
theorem meetL_iff {k a b : Nat} (hb : b < 2 ^ k) : meetL (bitsN k a) (bitsN k b) = true ↔ 0 < b &&& a := by
  unfold meetL
  rw [List.any_eq_true, hit_iff]
  constructor
  · rintro ⟨x, hx, h⟩
    rw [List.contains_iff_mem] at h
    exact ⟨x, (mem_bits.mp h).2, (mem_bits.mp hx).2⟩
  · rintro ⟨i, h1, h2⟩
    have := bit_lt hb h1
    exact ⟨i, mem_bits.mpr ⟨this, h2⟩, by rw [List.contains_iff_mem]; exact mem_bits.mpr ⟨this, h1⟩⟩
def leastL (L : List (List Nat)) : List (List Nat) := L.filter fun l => (L.filter fun x => x != l && inL x l).isEmpty
theorem mem_leastL {L : List (List Nat)} {l : List Nat} : l ∈ leastL L ↔ l ∈ L ∧ ∀ x ∈ L, inL x l = true → x = l := by
  unfold leastL
  rw [List.mem_filter, List.isEmpty_iff, List.filter_eq_nil_iff]
  constructor
  · rintro ⟨h1, h2⟩
    refine ⟨h1, fun x hx hi => Classical.byContradiction fun z => h2 x hx ?_⟩
    rw [hi, Bool.and_true]
    simpa using z
  · rintro ⟨h1, h2⟩
    refine ⟨h1, fun x hx h => ?_⟩
    rw [Bool.and_eq_true] at h
    have := h2 x hx h.2
    rw [this] at h
    simp at h
/-! ### in order -/
abbrev intsL (l : List Nat) : List Int := l.map fun x : Nat => (x : Int)
def lexN (l m : List Nat) : Bool := lexI (intsL l) (intsL m)
theorem lexI_asym : ∀ l m : List Int, lexI l m = true → lexI m l = false
  | [], [], h => by cases h
  | [], _ :: _, _ => rfl
  | _ :: _, [], h => by cases h
  | x :: l, y :: m, h => by
    unfold lexI at h ⊢
    by_cases e : x = y
    · rw [if_pos e] at h
      rw [if_pos e.symm]
      exact lexI_asym l m h
    · rw [if_neg e, decide_eq_true_eq] at h
      rw [if_neg (fun z => e z.symm), decide_eq_false_iff_not]
      omega
theorem lexI_tot : ∀ l m : List Int, lexI l m = false → lexI m l = false → l = m
  | [], [], _, _ => rfl
  | [], _ :: _, h, _ => by cases h
  | _ :: _, [], _, h => by cases h
  | x :: l, y :: m, h, k => by
    unfold lexI at h k
    by_cases e : x = y
    · rw [if_pos e] at h
      rw [if_pos e.symm] at k
      rw [e, lexI_tot l m h k]
    · rw [if_neg e, decide_eq_false_iff_not] at h
      rw [if_neg (fun z => e z.symm), decide_eq_false_iff_not] at k
      omega
theorem intsL_inj {l m : List Nat} (h : intsL l = intsL m) : l = m := by
  have := congrArg (List.map Int.toNat) h
  simpa [intsL, List.map_map, Function.comp_def] using this
/-- ascending -/
def SA (L : List (List Nat)) : Prop := L.Pairwise fun x y => lexN x y = true
theorem SA.eq : ∀ {L M : List (List Nat)}, SA L → SA M → (∀ l, l ∈ L ↔ l ∈ M) → L = M
  | [], [], _, _, _ => rfl
  | [], y :: M, _, _, h => nomatch (h y).mpr (List.mem_cons_self ..)
  | x :: L, [], _, _, h => nomatch (h x).mp (List.mem_cons_self ..)
  | x :: L, y :: M, a, b, h => by
    have a := List.pairwise_cons.mp a
    have b := List.pairwise_cons.mp b
    have e : x = y := by
      rcases List.mem_cons.mp ((h x).mp (List.mem_cons_self ..)) with e | e
      · exact e
      rcases List.mem_cons.mp ((h y).mpr (List.mem_cons_self ..)) with f | f
      · exact f.symm
      have p := a.1 y f
      have q := b.1 x e
      rw [show lexN y x = false from lexI_asym _ _ p] at q
      cases q
    subst e
    have ne : ∀ {z : List Nat} {N : List (List Nat)}, (∀ a' ∈ N, lexN x a' = true) → z ∈ N → z ≠ x := fun h1 h2 h3 => by
      have := h1 _ h2
      rw [h3] at this
      rw [show lexN x x = false from lexI_irr _] at this
      cases this
    rw [SA.eq a.2 b.2 fun l => ⟨fun hl => ?_, fun hl => ?_⟩]
    · exact ((List.mem_cons.mp ((h l).mp (List.mem_cons_of_mem _ hl))).resolve_left (ne a.1 hl))
    · exact ((List.mem_cons.mp ((h l).mpr (List.mem_cons_of_mem _ hl))).resolve_left (ne b.1 hl))
theorem SA.filter {L : List (List Nat)} (h : SA L) (p : List Nat → Bool) : SA (L.filter p) := List.Pairwise.filter p h
theorem SA.nodup {L : List (List Nat)} (h : SA L) : L.Nodup := List.Pairwise.imp (fun {a b} hab e => by
  rw [e, show lexN b b = false from lexI_irr _] at hab
  cases hab) h
theorem SA.of {L : List (List Nat)} (h : L.Pairwise fun x y => lexN y x = false) (n : L.Nodup) : SA L := by
  refine List.Pairwise.imp ?_ (List.Pairwise.and h n)
  intro a b hab
  cases e : lexN a b with
  | true => rfl
  | false => exact (hab.2 (intsL_inj (lexI_tot _ _ e hab.1))).elim
theorem all_lots_nodup (k : Nat) : ((List.range (2 ^ k)).map (bitsN k)).Nodup := by
  refine List.pairwise_map.mpr (List.Pairwise.imp_of_mem ?_ List.nodup_range)
  intro a b ha hb hab e
  exact hab (bits_inj (List.mem_range.mp ha) (List.mem_range.mp hb) e)
/-- the least lots below n that meet all that ms tells, in order -/
structure IsX (n : Nat) (ms : List Nat) (R : List (List Nat)) : Prop where
  asc : SA R
  mem : ∀ l, l ∈ R ↔ ∃ m, m < 2 ^ n ∧ LeastM ms m ∧ l = bitsN n m
theorem IsX.eq {n : Nat} {ms : List Nat} {R R' : List (List Nat)} (h : IsX n ms R) (k : IsX n ms R') : R = R' := h.asc.eq k.asc fun l => (h.mem l).trans (k.mem l).symm
/-- all lots below n, in order -/
structure IsE (n : Nat) (L : List (List Nat)) : Prop where
  asc : SA L
  mem : ∀ l, l ∈ L ↔ ∃ m, m < 2 ^ n ∧ l = bitsN n m
theorem IsE.of {n : Nat} {L : List (List Nat)} (p : L.Perm ((List.range (2 ^ n)).map (bitsN n))) (h : L.Pairwise fun x y => lexN y x = false) : IsE n L := by
  refine ⟨.of h (p.nodup_iff.mpr (all_lots_nodup n)), fun l => ?_⟩
  rw [p.mem_iff, List.mem_map]
  exact ⟨fun ⟨m, h1, h2⟩ => ⟨m, List.mem_range.mp h1, h2.symm⟩, fun ⟨m, h1, h2⟩ => ⟨m, List.mem_range.mpr h1, h2.symm⟩⟩
/-- the law's list -/
def dueL (L : List (List Nat)) (C : List (List Nat)) : List (List Nat) := leastL (L.filter fun l => C.all fun o => meetL o l)
theorem due_is {n : Nat} {L : List (List Nat)} {ms : List Nat} (e : IsE n L) (hm : ∀ c ∈ ms, c < 2 ^ n) : IsX n ms (dueL L (ms.map (bitsN n))) := by
  have ev : ∀ l, l ∈ (L.filter fun l => (ms.map (bitsN n)).all fun o => meetL o l) ↔ ∃ m, m < 2 ^ n ∧ allHit ms m ∧ l = bitsN n m := fun l => by
    rw [List.mem_filter, e.mem]
    constructor
    · rintro ⟨⟨m, h1, rfl⟩, h2⟩
      refine ⟨m, h1, fun c hc => (meetL_iff (k := n) h1).mp ?_, rfl⟩
      rw [List.all_eq_true] at h2
      exact h2 _ (List.mem_map.mpr ⟨c, hc, rfl⟩)
    · rintro ⟨m, h1, h2, rfl⟩
      refine ⟨⟨m, h1, rfl⟩, ?_⟩
      rw [List.all_eq_true]
      intro x hx
      obtain ⟨c, hc, rfl⟩ := List.mem_map.mp hx
      exact (meetL_iff h1).mpr (h2 c hc)
  refine ⟨(e.asc.filter _).filter _, fun l => ?_⟩
  unfold dueL
  rw [mem_leastL, ev]
  constructor
  · rintro ⟨⟨m, h1, h2, rfl⟩, h3⟩
    refine ⟨m, h1, leastM_iff.mpr ⟨h2, fun l hl hs => ?_⟩, rfl⟩
    have hl2 : l < 2 ^ n := Nat.lt_of_le_of_lt hs.le h1
    exact bits_inj hl2 h1 (h3 _ ((ev _).mpr ⟨l, hl2, hl, rfl⟩) ((inL_iff hl2).mpr hs))
  · rintro ⟨m, h1, h2, rfl⟩
    obtain ⟨h2, h3⟩ := leastM_iff.mp h2
    refine ⟨⟨m, h1, h2, rfl⟩, fun x hx hi => ?_⟩
    obtain ⟨l, l1, l2, rfl⟩ := (ev x).mp hx
    rw [h3 l l2 ((inL_iff l1).mp hi)]
/-- twice: the least ones of the lots -/
theorem twice_is {n : Nat} {ms ts : List Nat} {U S : List (List Nat)} (hm : ∀ c ∈ ms, c < 2 ^ n) (ht : ∀ t, t ∈ ts ↔ t < 2 ^ n ∧ LeastM ms t) (hU : ∀ l, l ∈ U ↔ l ∈ ms.map (bitsN n)) (hS : SA S) (hSm : ∀ l, l ∈ S ↔ l ∈ leastL U) : IsX n ts S := by
  refine ⟨hS, fun l => ?_⟩
  rw [hSm, mem_leastL, hU]
  constructor
  · rintro ⟨h1, h2⟩
    obtain ⟨m, hm1, rfl⟩ := List.mem_map.mp h1
    refine ⟨m, hm m hm1, (cross_least hm ht m).mpr ⟨hm1, fun c hc hs => ?_⟩, rfl⟩
    exact bits_inj (hm c hc) (hm m hm1) (h2 _ ((hU _).mpr (List.mem_map.mpr ⟨c, hc, rfl⟩)) ((inL_iff (hm c hc)).mpr hs))
  · rintro ⟨m, h1, h2, rfl⟩
    obtain ⟨h2, h3⟩ := (cross_least hm ht m).mp h2
    refine ⟨List.mem_map.mpr ⟨m, h2, rfl⟩, fun x hx hi => ?_⟩
    obtain ⟨c, hc, rfl⟩ := List.mem_map.mp ((hU x).mp hx)
    rw [h3 c hc ((inL_iff (hm c hc)).mp hi)]
end Hw
namespace Hw
open PySem PySem.Spec PyProof.Rows L2
/-! ### lots in the heap -/
theorem Dt.nats_at' {H : Hp} {x : V} {l : List Nat} (h : Dt H x (.list (natD l))) : ∃ a, x = .ref a ∧ H a = some (.lst (natV l)) := by
  cases h with
  | @lst a xs _ ha hs =>
    have e := DtAll.nats_inv _ _ hs
    subst e
    exact ⟨a, rfl, ha⟩
def lotD (l : List Nat) : PyData := .list (natD l)
def lotsD (L : List (List Nat)) : PyData := .list (L.map lotD)
/-- the numbers of the list at p -/
def dN (H : Hp) (p : Addr) : List Nat := match H p with
  | some (.lst xs) => xs.map fun x => match x with | .int i => i.toNat | _ => 0
  | _ => []
theorem dN_of {H : Hp} {p : Addr} {l : List Nat} (h : H p = some (.lst (natV l))) : dN H p = l := by
  unfold dN
  rw [h]
  show (l.map fun x : Nat => V.int (x : Int)).map _ = l
  rw [List.map_map]
  exact List.map_id l
/-- a lot stands at p -/
def LotAt (H : Hp) (p : Addr) : Prop := H p = some (.lst (natV (dN H p)))
theorem LotAt.of {H : Hp} {p : Addr} {l : List Nat} (h : H p = some (.lst (natV l))) : LotAt H p := by
  unfold LotAt
  rw [dN_of h]
  exact h
theorem dN_same {H H' : Hp} {p : Addr} (e : Same H H') (h : LotAt H p) : dN H' p = dN H p := dN_of (e _ _ h)
theorem LotAt.to {H H' : Hp} {p : Addr} (h : LotAt H p) (e : Same H H') : LotAt H' p := .of (e _ _ h)
theorem lots_same {H H' : Hp} {ps : List Addr} (e : Same H H') (h : ∀ r ∈ ps, LotAt H r) : ps.map (dN H') = ps.map (dN H) := List.map_congr_left fun r hr => dN_same e (h r hr)
theorem DtAll.lots {H : Hp} : ∀ (L : List (List Nat)) (vs : List V), DtAll H vs (L.map lotD) → ∃ ps : List Addr, vs = ps.map V.ref ∧ ps.map (dN H) = L ∧ ∀ r ∈ ps, LotAt H r
  | [], _, h => by
    cases h
    exact ⟨[], rfl, rfl, fun r hr => nomatch hr⟩
  | l :: L, _, h => by
    cases h with
    | cons h1 h2 =>
      obtain ⟨ps, rfl, e, k⟩ := DtAll.lots L _ h2
      obtain ⟨a, rfl, ha⟩ := Dt.nats_at' h1
      refine ⟨a :: ps, rfl, ?_, fun r hr => ?_⟩
      · rw [List.map_cons, e, dN_of ha]
      · rcases List.mem_cons.mp hr with z | z
        · rw [z]; exact .of ha
        · exact k r z
theorem Dt.lots {H : Hp} {x : V} {L : List (List Nat)} (h : Dt H x (lotsD L)) : ∃ (a : Addr) (ps : List Addr), x = .ref a ∧ H a = some (.lst (ps.map V.ref)) ∧ ps.map (dN H) = L ∧ ∀ r ∈ ps, LotAt H r := by
  unfold lotsD at h
  cases h with
  | @lst a xs _ ha hs =>
    obtain ⟨ps, rfl, e, k⟩ := DtAll.lots L _ hs
    exact ⟨a, ps, rfl, ha, e, k⟩
theorem LotAt.dt {H : Hp} {r : Addr} (h : LotAt H r) : Dt H (.ref r) (lotD (dN H r)) := Dt.nats h
theorem DtAll.of_lots {H : Hp} : ∀ ps : List Addr, (∀ r ∈ ps, LotAt H r) → DtAll H (ps.map V.ref) ((ps.map (dN H)).map lotD)
  | [], _ => .nil
  | r :: ps, h => .cons (h r (List.mem_cons_self ..)).dt (DtAll.of_lots ps fun q hq => h q (List.mem_cons_of_mem _ hq))
theorem Dt.of_lots {H : Hp} {a : Addr} {ps : List Addr} (h : H a = some (.lst (ps.map V.ref))) (k : ∀ r ∈ ps, LotAt H r) : Dt H (.ref a) (lotsD (ps.map (dN H))) := .lst h (DtAll.of_lots ps k)
section
variable {X : Cx}
/-- sorted of lots -/
def rSortedLots (K : PySem.W.Frag) : List V → Hp → VK → Prop := fun vs H Q => ∃ (a : Addr) (ps : List Addr), vs = [V.ref a] ∧ SqL K H a (ps.map V.ref) ∧ (∀ p ∈ ps, LotAt H p) ∧
  ∀ (qs : List Addr) (p : Addr), qs.Perm ps → (qs.map (dN H)).Pairwise (fun x y => lexN y x = false) → H p = none → Q (.ref p) (upd H p (.lst (qs.map V.ref)))
theorem cr_sortedLK {K : PySem.W.Frag} (h : X.K = K) (hu : X.A.units + 64 < cLine) : CallR X (.builtin "sorted") (rSortedLots K) := by
  subst h
  intro pins s σ H vs us Q I r h
  obtain ⟨a, ps, rfl, hs, hk, q⟩ := h
  refine cr_sortedL hu pins s σ H _ us Q I r ⟨a, ps, fun p => intsL (dN H p), rfl, hs, fun p hp => ?_, fun qs p pq pw hp => q qs p pq ?_ hp⟩
  · have := hk p hp
    unfold LotAt at this
    rw [this]
    unfold intsL
    rw [List.map_map]
    rfl
  · rw [List.pairwise_map]
    exact pw
end
/-! ### comprehensions with a test, over lists of any kind -/
def FltM {α : Type} (f : α → PyData) (l : List α) (p : α → Bool) (H1 : Hp) (D : Addr) (i : Nat) (H' : Hp) : Prop := Same H1 H' ∧ ∃ vs, H' D = some (.lst vs) ∧ DtAll H1 vs (((l.take i).filter p).map f) ∧ vs.length ≤ i
theorem FltM.start {α : Type} {f : α → PyData} {l : List α} {p : α → Bool} {H1 : Hp} {D : Addr} (hD : H1 D = none) : FltM f l p H1 D 0 (upd H1 D (.lst [])) := ⟨same_new' hD, [], upd_same, .nil, Nat.le_refl _⟩
theorem FltM.keep {α : Type} {f : α → PyData} {l : List α} {p : α → Bool} {H1 H' H2 : Hp} {D : Addr} {i : Nat} {d : α} {y : V} (F : FltM f l p H1 D i H') (hD : H1 D = none) (hi : l[i]? = some d) (hp : p d = true) (hy : Dt H1 y (f d)) (hz : i ≤ 1000000) (e2 : Same H' H2) :
    ∃ acc, H2 D = some (.lst acc) ∧ acc.length < sizeLine ∧ FltM f l p H1 D (i + 1) (upd H2 D (.lst (acc ++ [y]))) := by
  obtain ⟨s, vs, e, hv, hl⟩ := F
  refine ⟨vs, e2 _ _ e, by rw [sizeLine_eq]; omega, fun b o hb => ?_, vs ++ [y], upd_same, ?_, by rw [List.length_append]; show vs.length + 1 ≤ i + 1; omega⟩
  · rw [upd_ne (ne_of_none hb hD)]
    exact e2 _ _ (s b o hb)
  · rw [List.take_add_one, hi, List.filter_append, List.map_append]
    refine hv.app ?_
    show DtAll H1 [y] ((List.filter p [d]).map f)
    rw [List.filter_cons_of_pos hp]
    exact .cons hy .nil
theorem FltM.skip {α : Type} {f : α → PyData} {l : List α} {p : α → Bool} {H1 H' H2 : Hp} {D : Addr} {i : Nat} {d : α} (F : FltM f l p H1 D i H') (hi : l[i]? = some d) (hp : p d = false) (e2 : Same H' H2) : FltM f l p H1 D (i + 1) H2 := by
  obtain ⟨s, vs, e, hv, hl⟩ := F
  refine ⟨s.trans e2, vs, e2 _ _ e, ?_, by omega⟩
  rw [List.take_add_one, hi, List.filter_append]
  show DtAll H1 vs (List.map f (_ ++ List.filter p [d]))
  rw [List.filter_cons_of_neg (by rw [hp]; exact Bool.false_ne_true), List.filter_nil, List.append_nil]
  exact hv
theorem FltM.done {α : Type} {f : α → PyData} {l : List α} {p : α → Bool} {H1 H' : Hp} {D : Addr} {n : Nat} (F : FltM f l p H1 D n H') (hn : n = l.length) : Same H1 H' ∧ Dt H' (.ref D) (.list ((l.filter p).map f)) := by
  obtain ⟨s, vs, e, hv, hl⟩ := F
  subst hn
  rw [List.take_length] at hv
  exact ⟨s, .lst e (hv.to s)⟩
/-- .. == [] -/
theorem eq_nilM {H' : Hp} {E : Addr} {x : V} {ds : List PyData} {Q : VK} (hx : Dt H' x (.list ds)) (hE : H' E = none) (nd : ∀ d ∈ ds, Nice d) (h : Q (.bl ds.isEmpty) (upd H' E (.lst []))) : rEqT x (.ref E) (upd H' E (.lst [])) Q := by
  refine ⟨_, .list [], hx.to (same_new' hE), .lst upd_same .nil, shaped_list nd, shaped_nil, ?_⟩
  rw [eqv_nil]
  exact h
theorem ne_nilM {H' : Hp} {E : Addr} {x : V} {ds : List PyData} {Q : VK} (hx : Dt H' x (.list ds)) (hE : H' E = none) (nd : ∀ d ∈ ds, Nice d) (h : Q (.bl (!ds.isEmpty)) (upd H' E (.lst []))) : rNeT x (.ref E) (upd H' E (.lst [])) Q := by
  refine ⟨_, .list [], hx.to (same_new' hE), .lst upd_same .nil, shaped_list nd, shaped_nil, ?_⟩
  rw [eqv_nil]
  exact h
/-- few small numbers -/
def Few (l : List Nat) : Prop := l.length ≤ 100 ∧ ∀ x ∈ l, x < 1000
theorem Few.bnd {l : List Nat} (h : Few l) : Bnd 1 100 (lotD l) := Bnd.nats (n := 100) (fun x hx => by have := h.2 x hx; omega) h.1 (by decide)
theorem Few.nice {l : List Nat} (h : Few l) : Nice (lotD l) := h.bnd.nice (by decide) (by decide)
theorem few_bits {n m : Nat} (h : n ≤ 8) : Few (bitsN n m) := ⟨by have := bits_len n m; omega, fun x hx => by have := (mem_bits.mp hx).1; omega⟩
theorem lots_shows {L : List (List Nat)} (h : ∀ l ∈ L, Few l) (hl : L.length ≤ 2000) : Nice (lotsD L) := by
  refine (Bnd.list (k := 1) (b := 100) (n := 2000) (c := 202000) (fun x hx => ?_) (by rw [List.length_map]; exact hl) (by decide)).nice (by decide) (by decide)
  obtain ⟨l, hl, rfl⟩ := List.mem_map.mp hx
  exact (h l hl).bnd
theorem nat_nice {n : Nat} (h : n < 10 ^ 38) : Nice (.int (n : Int)) := Nice.int (by omega)
mutual
theorem eqv_nats : ∀ a b : List Nat, PyData.eqvAll (natD a) (natD b) = (a == b)
  | [], [] => by simp [PyData.eqvAll]
  | [], _ :: _ => by simp [PyData.eqvAll]
  | _ :: _, [] => by simp [PyData.eqvAll]
  | x :: a, y :: b => by
    have := eqv_nats a b
    simp only [List.map_cons, PyData.eqvAll, this, PyData.eqv]
    by_cases h : x = y
    · subst h; simp
    · have e1 : ((x : Int) == (y : Int)) = false := by simp; omega
      have e2 : (x == y) = false := by simpa using h
      rw [e1, List.cons_beq_cons, e2]
end
theorem eqv_lots (a b : List Nat) : PyData.eqv (lotD a) (lotD b) = (a == b) := by
  unfold lotD
  simp only [PyData.eqv]
  exact eqv_nats a b
theorem cutN_from (l : List Nat) {n : Nat} (h : n ≤ l.length) : cutV (natV l) (some (n : Int)) none = natV (l.drop n) := by
  unfold cutV
  rw [HT.sIx_none, HT.sIx_nat, List.length_map, Nat.min_eq_left h, ← List.map_drop, List.take_of_length_le (by rw [List.length_map, List.length_drop]; omega)]
theorem cutR_to (l : List Addr) (n : Nat) : cutV (l.map V.ref) none (some (n : Int)) = (l.take n).map V.ref := by
  unfold cutV
  rw [HT.sIx_none, HT.sIx_nat, List.length_map, List.drop_zero, Nat.sub_zero, List.map_take]
  by_cases h : n ≤ l.length
  · rw [Nat.min_eq_left h]
  · rw [Nat.min_eq_right (by omega), List.take_of_length_le (by rw [List.length_map]; omega), List.take_of_length_le (by rw [List.length_map]; omega)]
theorem natV_snoc' (l : List Nat) (x : Nat) : natV l ++ [V.int (x : Int)] = natV (l ++ [x]) := by
  show _ = List.map _ _
  rw [List.map_append]
  rfl
end Hw

set_option Elab.async false
set_option linter.all false
set_option maxRecDepth 100000
set_option maxHeartbeats 4000000
/-! the binary text of a number, as an f-text makes it -/
namespace Hw
open PySem PySem.Spec PyProof.Rows L2 Builtin
abbrev fB : PySem.Builtin.Float.FormatSpec := { align := 62, type := some 98 }
theorem spec_b : Float.parseFormatSpec (Str.ofString "b").cps.toList "int" 62 = .ok fB := by kernel_rfl
theorem spec_few : ((Str.ofString "b").length == 0) = false := by kernel_rfl
theorem spec_plain : (((Str.ofString "b").cps.toList.drop 1).any (· ≥ 128) || ((Str.ofString "b").cps.getD 0 0 ≥ 128 && !([60, 62, 61, 94] : List Nat).contains ((Str.ofString "b").cps.getD 1 0))) = false := by kernel_rfl
theorem field_b (n : Nat) : intField' fB (decide ((n : Int) < 0)) [] ((Nat.toDigits 2 (n : Int).natAbs).map fun c => (if (98 : Nat) == 88 then c.toUpper else c).toNat) [] 4 = binT n := by
  have h : decide ((n : Int) < 0) = false := by simp
  rw [h]
  unfold intField' binT binL
  have e : ((Nat.toDigits 2 (n : Int).natAbs).map fun c => (if ((98 : Nat) == 88) = true then c.toUpper else c).toNat) = (Nat.toDigits 2 n).map Char.toNat := by
    rw [Int.natAbs_natCast]
    rfl
  rw [e]
  cases hd : (Nat.toDigits 2 n).map Char.toNat with
  | nil => simp [fB]
  | cons a l =>
    have z : ((-1 : Int) - (((l.length : Nat) : Int) + 1)).toNat = 0 := by omega
    simp [fB, z]
section
variable {prog : Program} {w : World} {A : Around} {s : Shared} {Q : Value → Shared → Prop} {E : Value → Shared → Prop}
theorem turned_if {α : Type} (b : Bool) {M : Model} {y : Sem α} {Q : α → Shared → Prop} (k : wpAny M A y Q E s) : wpAny M A (if b = true then y else y) Q E s := by
  cases b <;> exact k
theorem format_b {n : Nat} {t : Tok} (hz : (binT n).length ≤ sizeLine) (h : ∀ k u, Q (.str (binT n) u) { s with toks := k }) : wpAny (model prog w) A (formatField (.int (n : Int) t) (Str.ofString "b")) Q E s := by
  refine PySem.W.KXf.field_int (y := binT n) rfl spec_few (by decide +kernel) (fun u => ?_) fun t' k => h k t'
  apply PySem.W.KPc.meets_of
  intro prog w A s Q E hq
  unfold Builtin.«int.__format__»
  simp only [selfAndOne, noKeywords, Int.intOfSelf, asInt?, asStr?, List.isEmpty_nil, if_true, pure_bind, bind_pure, bind_assoc, spec_few, spec_plain, Bool.false_eq_true, if_false,
    show (Value.str (Str.ofString "b") u == Value.none) = false from rfl]
  refine wpAny_bind (wpAny_typeNameOf (T := "str") (typeIs_str _ _ _) (by decide) fun _ => ?_)
  refine wpAny_bind (wpAny_typeNameOfCut_int ?_)
  simp only [spec_b]
  rw [if_pos (by decide +kernel), show (fB.type.getD (if ((Str.ofString "b").cps.back? == some 0) = true then 0 else 100)) = 98 from by decide +kernel]
  refine turned_if fB.precision.isSome ?_
  simp only [show fB.precision = none from rfl, show fB.noNeg0 = false from rfl, show fB.width = none from rfl, show fB.alt = false from rfl, Option.isSome_none, Option.getD_none, Bool.false_eq_true, if_false,
    show ((98 : Nat) == 99) = false from rfl, show ((98 : Nat) == 98) = true from rfl, show ((2 : Nat) == 10) = false from rfl, if_true, show ¬ ((0 : Nat) > 100000) from by decide]
  exact PySem.W.KXf.ret_text (T := binT n) (field_b n) (Nat.le_trans (Nat.le_of_eq (congrArg PySem.Str.length (field_b n))) hz) hq
end
section
variable {X : Cx} {e sp : Expr} {te : TE} {pos : Pos}
/-- {e:b}, sp the text after the colon -/
theorem pe_fmtB (he : PE X e te) (hs : PE X sp (tC (.str (Str.ofString "b")))) : PE X (.FormattedValue e (-1) (some sp) pos) (fun σ H Q => te σ H fun x H1 => ∃ n : Nat, x = .int (n : Int) ∧ (binT n).length ≤ sizeLine ∧ Q (.str (binT n)) H1) := by
  refine ⟨fun pins s σ H Q I h => ?_⟩
  refine wpAny_FormattedValue_spec (thn (he.run pins s σ H _ I h) fun v s1 ⟨x, H1, I1, rx, n, ex, hz, q⟩ => ?_)
  subst ex
  obtain ⟨t, rfl⟩ := rx
  refine thn (hs.run pins s1 σ H1 (fun y H2 => y = .str (Str.ofString "b") ∧ H2 = H1) I1 ⟨rfl, rfl⟩) fun r s2 ⟨y, H2, I2, ry, ey, eh⟩ => ?_
  subst ey eh
  obtain ⟨t', rfl⟩ := ry
  exact ⟨_, t', rfl, format_b hz fun k' u => ⟨.str _, H2, I2.kept (t' := k') (fun _ _ q => q), ⟨u, rfl⟩, q⟩⟩
end
end Hw

set_option Elab.async false
set_option linter.all false
set_option maxRecDepth 100000
set_option maxHeartbeats 4000000
/-! a text from behind: x[::-1] -/
namespace Hw
open PySem PySem.Spec PyProof.Rows L2
def revT (z : Str) : Str := ⟨z.cps.toList.reverse.toArray⟩
theorem rev_ix (n : Nat) : Builtin.Str.strSliceIndices none none (-1) n = (List.range n).reverse := by
  unfold Builtin.Str.strSliceIndices
  show sliceRange ((n : Int) - 1) (-1) (-1) = _
  rw [PySem.W.krv_sliceRange, PySem.W.krv_range]
theorem rev_pick (z : Str) : ((Builtin.Str.strSliceIndices none none (-1) z.length).filterMap (z.cps[·]?)).toArray = z.cps.toList.reverse.toArray := by
  rw [rev_ix, List.filterMap_reverse]
  show ((List.range z.cps.size).filterMap (z.cps[·]?)).reverse.toArray = _
  rw [PySem.W.krv_all]
section
variable {X : Cx} {e : Expr} {st1 : Expr} {te : TE} {ts : TO} {p2 pos : Pos}
theorem pe_rev (he : PE X e te) (hs : PO X (some st1) ts) : PE X (.Subscript e (.Slice none none (some st1) p2) pos) (fun σ H Q => te σ H fun x H1 => ts σ H1 fun o H2 => ∃ z : Str, x = .str z ∧ o = some (-1) ∧ z.length ≤ sizeLine ∧ Q (.str (revT z)) H2) := by
  refine ⟨fun pins s σ H Q I h => ?_⟩
  refine Subscript_ (thn (he.run pins s σ H _ I h) fun text s1 ⟨x, H1, I1, r1, q1⟩ => ?_)
  refine wpAny_Slice ?_
  rw [evalPart_none]
  refine wpAny_pure (wpAny_pure ?_)
  refine thn (hs.run pins s1 σ H1 _ I1 q1) fun vu s3 ⟨u, H3, I3, pu, z, ex, eo, hz, q⟩ => ?_
  subst ex eo
  obtain ⟨t, rfl⟩ := r1
  cases pu with
  | int i tk =>
  have I4 : Inv X pins σ H3 { s3 with heap := s3.heap.push { cls := .type "slice", data := .fields #[.none, .none, .int (-1) tk] } } := I3.kept (t' := s3.toks) fun b ob q => Heap.get?_push_of_some _ q
  show wpAny (model X.prog X.w) X.A (subscriptTail e (.Slice none none (some st1) p2) (.str z t) (.ref s3.heap.objs.size)) (EP X pins σ Q) X.xe { s3 with heap := s3.heap.push { cls := .type "slice", data := .fields #[.none, .none, .int (-1) tk] } }
  refine tail_any (ops := [.ref s3.heap.objs.size, .str z t]) (typeIs_str _ _ _) F.slot_str_getitem.lookup ?_ (by with_unfolding_all rfl)
  refine wpAny_getItem_str_slice (l := none) (u := none) (st := some (-1, tk)) ⟨_, Heap.get?_push_size _ rfl, rfl, rfl⟩ rfl ?_
  show Made.post (if ((-1 : Int) == 1 && (Builtin.Str.strSliceIndices none none (-1) z.length).length == z.length) = true then Made.val (.str z t)
    else Made.str ⟨((Builtin.Str.strSliceIndices none none (-1) z.length).filterMap (z.cps[·]?)).toArray⟩) (EP X pins σ Q) _
  rw [if_neg (by rw [show ((-1 : Int) == 1) = false from rfl, Bool.false_and]; decide), rev_pick]
  refine ⟨?_, .str _, H3, I4.tok _, ⟨_, rfl⟩, q⟩
  show (z.cps.toList.reverse.toArray).size ≤ sizeLine
  rw [List.size_toArray, List.length_reverse, Array.length_toList]
  exact hz
end
end Hw

set_option Elab.async false
set_option linter.all false
set_option maxRecDepth 100000
set_option maxHeartbeats 4000000
/-! enumerate(text) -/
namespace Hw
open PySem PySem.Spec PyProof.Rows L2
def Itse (x : Str) : It := ⟨fun i _ => i < x.cps.size, fun i H v H' => ∃ T c, x.cps[i]? = some c ∧ v = .ref T ∧ H T = none ∧ H' = upd H T (.tup [.int (i : Nat), .str ⟨#[c]⟩]), fun i _ => x.cps.size ≤ i⟩
theorem draws_str {P : Program} {w : World} {A : Around} (hh : A.handled = none) (it : Addr) (x : Str) (t : Tok) {ty : String} (hty : ty = "str_ascii_iterator" ∨ ty = "str_iterator") :
    Draws P w A it [it] x.cps.size (fun i v => ∃ c u, x.cps[i]? = some c ∧ v = .str ⟨#[c]⟩ u) (fun i h => h.IsStrIter it ty x t i) := by
  rcases hty with e | e
  · rw [e]; exact Draws.strAscii hh it x t
  · rw [e]; exact Draws.strWide hh it x t
theorem turn_enumS {P : Program} {w : World} {K : PySem.W.Frag} {elts : List Expr} {kk : Nat} {tpos : Pos} (e it : Addr) (x : Str) (t : Tok) (ty : String) (hty : ty = "str_ascii_iterator" ∨ ty = "str_iterator") :
    Turn P w K (.Tuple elts kk tpos) (Itse x) [e, it] e (fun i h => (∃ old, IsEnum h e it ((i : Nat) : Int) old) ∧ h.IsStrIter it ty x t i ∧ e ≠ it) where
  mem := by simp
  obj := fun i h st b hb => by
    obtain ⟨⟨old, he⟩, ⟨o, ho, hc, hd⟩, _⟩ := st
    have e' : b = e ∨ b = it := by simpa using hb
    rcases e' with z | z
    · rw [z]; exact ⟨_, he, fun v q => nomatch q⟩
    · rw [z]; exact ⟨o, ho, fun v q => by rw [hd] at q; cases q⟩
  keep := fun i h h' st k => by
    obtain ⟨⟨old, he⟩, ⟨o, ho, r⟩, hne⟩ := st
    exact ⟨⟨old, k e (by simp) _ he⟩, ⟨o, k it (by simp) o ho, r⟩, hne⟩
  item := by
    intro X hP hw hK hc i pins s σ H E I hf st hg
    subst hP hw hK
    obtain ⟨⟨old, he⟩, hit, hne⟩ := st
    have hel : e < s.heap.objs.size := Heap.lt_size he
    have hil : it < s.heap.objs.size := by obtain ⟨_, q, _⟩ := hit; exact Heap.lt_size q
    refine wpAny_pyNext_enum_itemD (draws_str (A := X.A.in1) (I.ok.hd hc) it x t hty) he hit hg hne (by simpa using hne) fun y h' tk hy ho hit' hT hsz hk => ?_
    obtain ⟨c, u, hcx, rfl⟩ := hy
    refine ⟨_, rfl, wpAny_letOwnedTupleGo_enum (s := { s with heap := h', toks := tk + 1 }) ho fun h'' he' sb => ?_⟩
    have hT2 : h''.get? s.heap.objs.size = some { cls := .type "tuple", data := .seq #[.int i tk, .str ⟨#[c]⟩ u] } := (sb.2 _ (Nat.ne_of_gt hel)).trans hT
    have new : ObjOk X.prog X.w (upd H s.heap.objs.size (.tup [.int (i : Nat), .str ⟨#[c]⟩])) h'' s.heap.objs.size (.tup [.int (i : Nat), .str ⟨#[c]⟩]) :=
      ⟨by show 2 ≤ sizeLine; decide, [.int i tk, .str ⟨#[c]⟩ u], .cons ⟨_, rfl⟩ (.cons ⟨u, rfl⟩ .nil), ⟨_, hT2, rfl, _, rfl⟩⟩
    have I1 : Inv X pins σ (upd H s.heap.objs.size (.tup [.int (i : Nat), .str ⟨#[c]⟩])) { s with heap := h'', toks := tk + 1 } :=
      I.turnedNew (ch := [e, it]) (fun b ob hb q => (sb.2 b (fun z => hb (by simp [z]))).trans (hk b ob (fun z => hb (by simp [z])) (fun z => hb (by simp [z])) q)) hf (Nat.le_refl _) new
    refine ⟨.ref s.heap.objs.size, _, I1, rfl, ⟨_, c, hcx, rfl, I.hok.fresh (Nat.le_refl _), rfl⟩, ⟨⟨.str ⟨#[c]⟩ u, ?_⟩, ?_, hne⟩, fun b hb => ?_⟩
    · have e1 : ((i + 1 : Nat) : Int) = (i : Int) + 1 := by omega
      rw [e1]; exact he'
    · obtain ⟨o, ho2, r⟩ := hit'
      exact ⟨o, (sb.2 it (Ne.symm hne)).trans ho2, r⟩
    · have hb' : b < s.heap.objs.size := by
        have e' : b = e ∨ b = it := by simpa using hb
        rcases e' with z | z
        · rw [z]; exact hel
        · rw [z]; exact hil
      rw [upd_ne (Nat.ne_of_lt hb')]
      exact (hf b hb).1
  done := by
    intro X hP hw hK hc i pins s σ H E I hf st hg
    subst hP hw hK
    obtain ⟨⟨old, he⟩, hit, hne⟩ := st
    obtain ⟨f0, f1, f2, f3, f4, f5⟩ := hf it (by simp)
    have hx : x.cps[i]? = none := Array.getElem?_eq_none hg
    refine wpAny_pyNext_enum_endD (St := fun _ h => h.IsStrIter it ty x t i) (n := 0) (P := fun _ _ => True) (fp := [it]) ?_ he hit fun h' eb => ⟨rfl, I.turned (t' := s.toks) (fun b o hb q => eb b o hb q) f0 f1 f3 f4 f5⟩
    refine ⟨fun _ h ⟨o, ho, _⟩ => ⟨o, ho⟩, fun _ h h' ⟨o, ho, r⟩ k => ⟨o, k it (by simp) o ho, r⟩, fun j _ _ _ hj => (nomatch hj), fun s' Q' E' st' hE' => ?_⟩
    rcases hty with z | z
    · rw [z] at st'; exact wpAny_nextOf_ascii_end (A := X.A.in1) (I.ok.hd hc) st' hx hE'
    · rw [z] at st'; exact wpAny_nextOf_wide_end (A := X.A.in1) (I.ok.hd hc) st' hx hE'
  self := fun A i s Q E st h => let ⟨⟨_, he⟩, _⟩ := st; wpAny_pyIter_enum he h
def iEnumS (ta : TA) : TI := fun σ H R => ta σ H fun vs H1 => ∃ x, vs = [.str x] ∧ R (Itse x) H1
theorem strIter_ty (x : Str) : strIterType x = "str_ascii_iterator" ∨ strIterType x = "str_iterator" := by
  unfold strIterType
  split
  · exact .inl rfl
  · exact .inr rfl
theorem pi_enumS {X : Cx} {e : Expr} {ta : TA} {p pos tpos : Pos} {elts : List Expr} {kk : Nat} (hg : Gl X "enumerate") (hm : X.mg "enumerate" = none) (ha : PA X [e] ta) (hs : starEach [e] X.env = [(false, eval e X.env)] := by rfl) :
    PI X (.Tuple elts kk tpos) (.Call (.Name "enumerate" p) [e] [] pos) (iEnumS ta) := by
  refine ⟨fun pins s σ H R I h => ?_⟩
  refine Call_ (ld_blt I hg hm boot_enumerate (PyProof.Rows.callWith_type1 (thn (ha.run pos pins s σ H _ I h) fun us s1 ⟨vs, H1, I1, r1, q1⟩ => ?_) hs rfl))
  obtain ⟨x, ex, q⟩ := q1
  subst ex
  cases r1 with
  | cons r rr =>
    cases rr
    obtain ⟨t, rfl⟩ := r
    refine call_enumerate_str fun h' he hit hsz hk => wpAny_pyIter_enum he ?_
    have I2 : Inv X pins σ H1 { s1 with heap := h' } := I1.kept (t' := s1.toks) hk
    refine ⟨s1.heap.objs.size + 1, [s1.heap.objs.size + 1, s1.heap.objs.size], _, _, H1, rfl, I2, turn_enumS (s1.heap.objs.size + 1) s1.heap.objs.size x t _ (strIter_ty x), ⟨⟨.none, he⟩, hit, Nat.succ_ne_self _⟩, fun b hb => ?_, q⟩
    have e' : b = s1.heap.objs.size + 1 ∨ b = s1.heap.objs.size := by simpa using hb
    have hle : s1.heap.objs.size ≤ b := by
      rcases e' with z | z
      · rw [z]; exact Nat.le_add_right _ _
      · rw [z]; exact Nat.le_refl _
    exact I1.fpOk hle (I1.hok.fresh hle)
theorem walk_enumS {z : Str} : Walk (Itse z) z.cps.size (fun _ => True) (fun i H v H' => ∃ T c, z.cps[i]? = some c ∧ v = .ref T ∧ H T = none ∧ H' = upd H T (.tup [.int (i : Nat), .str ⟨#[c]⟩])) :=
  ⟨fun _ _ hi _ => hi, fun _ _ => Nat.le_refl _, fun _ _ _ _ _ _ y => y⟩
end Hw

set_option Elab.async false
set_option linter.all false
set_option maxRecDepth 100000
set_option maxHeartbeats 4000000

namespace K63
open PySem PySem.Spec PyProof.Rows L2 Hw
def topS (i : Nat) : Stmt := PySem.Challenge.pw_howeverwide_k63_whole_crossing_lots.main.body.getD i (.Pass ⟨0, 0, 0, 0⟩)
abbrev s_is_whole : Stmt := topS 5
theorem sc_is_whole : FnScope ["value"] ["value"] (defScope s_is_whole) := ⟨rfl, rfl, rfl, by decide +kernel, rfl, by decide +kernel, by decide +kernel⟩
abbrev s_is_count_to : Stmt := topS 6
theorem sc_is_count_to : FnScope ["value", "most"] ["value", "most"] (defScope s_is_count_to) := ⟨rfl, rfl, rfl, by decide +kernel, rfl, by decide +kernel, by decide +kernel⟩
abbrev s_ascends : Stmt := topS 7
theorem sc_ascends : FnScope ["items", "one", "other"] ["items"] (defScope s_ascends) := ⟨rfl, rfl, rfl, by decide +kernel, rfl, by decide +kernel, by decide +kernel⟩
abbrev s_mask_of : Stmt := topS 9
theorem sc_mask_of : FnScope ["stands", "mask", "stand"] ["stands"] (defScope s_mask_of) := ⟨rfl, rfl, rfl, by decide +kernel, rfl, by decide +kernel, by decide +kernel⟩
abbrev s_stands_of : Stmt := topS 10
theorem sc_stands_of : FnScope ["mask", "stand", "figure"] ["mask"] (defScope s_stands_of) := ⟨rfl, rfl, rfl, by decide +kernel, rfl, by decide +kernel, by decide +kernel⟩
abbrev s_crossing : Stmt := topS 13
theorem sc_crossing : FnScope ["many", "lots", "masks", "lot", "mask", "other"] ["many", "lots"] (defScope s_crossing) := ⟨rfl, rfl, rfl, by decide +kernel, rfl, by decide +kernel, by decide +kernel⟩
abbrev s_is_lot : Stmt := topS 14
theorem sc_is_lot : FnScope ["value", "many", "number"] ["value", "many"] (defScope s_is_lot) := ⟨rfl, rfl, rfl, by decide +kernel, rfl, by decide +kernel, by decide +kernel⟩
abbrev s_one_fewer : Stmt := topS 15
theorem sc_one_fewer : FnScope ["mask", "number"] ["mask"] (defScope s_one_fewer) := ⟨rfl, rfl, rfl, by decide +kernel, rfl, by decide +kernel, by decide +kernel⟩
abbrev s_least_masks : Stmt := topS 16
theorem sc_least_masks : FnScope ["marks", "mask", "mark", "fewer"] ["marks"] (defScope s_least_masks) := ⟨rfl, rfl, rfl, by decide +kernel, rfl, by decide +kernel, by decide +kernel⟩
abbrev s_lots_told : Stmt := topS 17
theorem sc_lots_told : FnScope ["masks", "mask"] ["masks"] (defScope s_lots_told) := ⟨rfl, rfl, rfl, by decide +kernel, rfl, by decide +kernel, by decide +kernel⟩
abbrev s_law_hash : Stmt := topS 19
theorem sc_law_hash : FnScope ["_law_seed", "_law_index", "_law_mixed"] ["_law_seed", "_law_index"] (defScope s_law_hash) := ⟨rfl, rfl, rfl, by decide +kernel, rfl, by decide +kernel, by decide +kernel⟩
abbrev s_law_random : Stmt := topS 20
theorem sc_law_random : FnScope ["_law_generator_here", "_law_bound", "_law_drawn", "_law_turn"] ["_law_generator_here", "_law_bound"] (defScope s_law_random) := ⟨rfl, rfl, rfl, by decide +kernel, rfl, by decide +kernel, by decide +kernel⟩
abbrev s_law_cell : Stmt := topS 21
theorem sc_law_cell : FnScope ["_law_script", "_law_index"] ["_law_script", "_law_index"] (defScope s_law_cell) := ⟨rfl, rfl, rfl, by decide +kernel, rfl, by decide +kernel, by decide +kernel⟩
abbrev s_law_generator : Stmt := topS 22
theorem sc_law_generator : FnScope ["_law_script", "_law_index", "_law_seed"] ["_law_script", "_law_index"] (defScope s_law_generator) := ⟨rfl, rfl, rfl, by decide +kernel, rfl, by decide +kernel, by decide +kernel⟩
abbrev s_law_lots : Stmt := topS 23
theorem sc_law_lots : FnScope ["_law_many_told", "_law_found", "_law_number", "_law_lot"] ["_law_many_told"] (defScope s_law_lots) := ⟨rfl, rfl, rfl, by decide +kernel, rfl, by decide +kernel, by decide +kernel⟩
abbrev s_law_inside : Stmt := topS 24
theorem sc_law_inside : FnScope ["_law_low", "_law_high", "_law_number"] ["_law_low", "_law_high"] (defScope s_law_inside) := ⟨rfl, rfl, rfl, by decide +kernel, rfl, by decide +kernel, by decide +kernel⟩
abbrev s_law_least : Stmt := topS 25
theorem sc_law_least : FnScope ["_law_lots_told", "_law_lot", "_law_less"] ["_law_lots_told"] (defScope s_law_least) := ⟨rfl, rfl, rfl, by decide +kernel, rfl, by decide +kernel, by decide +kernel⟩
abbrev s_law_due : Stmt := topS 26
theorem sc_law_due : FnScope ["_law_many_told", "_law_lots_told", "_law_found", "_law_lot", "_law_other_told", "_law_number"] ["_law_many_told", "_law_lots_told"] (defScope s_law_due) := ⟨rfl, rfl, rfl, by decide +kernel, rfl, by decide +kernel, by decide +kernel⟩
abbrev s_law_right : Stmt := topS 27
theorem sc_law_right : FnScope ["_law_generator_here", "_law_many_told", "_law_every", "_law_lots_told", "_law_kept", "_law_due_here", "_law_told", "_law_some", "_law_least_here", "_law_turn", "_law_lot", "_law_at"] ["_law_generator_here"] (defScope s_law_right) := ⟨rfl, rfl, rfl, by decide +kernel, rfl, by decide +kernel, by decide +kernel⟩
abbrev s_law : Stmt := topS 28
theorem sc_law : FnScope ["_law_script", "_law_index", "_law_told"] ["_law_script"] (defScope s_law) := ⟨rfl, rfl, rfl, by decide +kernel, rfl, by decide +kernel, by decide +kernel⟩
/-- what the top has written -/
structure Tx (K : PySem.W.Frag) (mg : Str → Option Value) where
  a_is_whole : Addr
  d_is_whole : FuncData
  F_is_whole : DefAt K "is_whole" s_is_whole a_is_whole d_is_whole
  g_is_whole : mg "is_whole" = some (.ref a_is_whole)
  a_is_count_to : Addr
  d_is_count_to : FuncData
  F_is_count_to : DefAt K "is_count_to" s_is_count_to a_is_count_to d_is_count_to
  g_is_count_to : mg "is_count_to" = some (.ref a_is_count_to)
  a_ascends : Addr
  d_ascends : FuncData
  F_ascends : DefAt K "ascends" s_ascends a_ascends d_ascends
  g_ascends : mg "ascends" = some (.ref a_ascends)
  a_mask_of : Addr
  d_mask_of : FuncData
  F_mask_of : DefAt K "mask_of" s_mask_of a_mask_of d_mask_of
  g_mask_of : mg "mask_of" = some (.ref a_mask_of)
  a_stands_of : Addr
  d_stands_of : FuncData
  F_stands_of : DefAt K "stands_of" s_stands_of a_stands_of d_stands_of
  g_stands_of : mg "stands_of" = some (.ref a_stands_of)
  a_crossing : Addr
  d_crossing : FuncData
  F_crossing : DefAt K "crossing" s_crossing a_crossing d_crossing
  g_crossing : mg "crossing" = some (.ref a_crossing)
  a_is_lot : Addr
  d_is_lot : FuncData
  F_is_lot : DefAt K "is_lot" s_is_lot a_is_lot d_is_lot
  g_is_lot : mg "is_lot" = some (.ref a_is_lot)
  a_one_fewer : Addr
  d_one_fewer : FuncData
  F_one_fewer : DefAt K "one_fewer" s_one_fewer a_one_fewer d_one_fewer
  g_one_fewer : mg "one_fewer" = some (.ref a_one_fewer)
  a_least_masks : Addr
  d_least_masks : FuncData
  F_least_masks : DefAt K "least_masks" s_least_masks a_least_masks d_least_masks
  g_least_masks : mg "least_masks" = some (.ref a_least_masks)
  a_lots_told : Addr
  d_lots_told : FuncData
  F_lots_told : DefAt K "lots_told" s_lots_told a_lots_told d_lots_told
  g_lots_told : mg "lots_told" = some (.ref a_lots_told)
  a_law_hash : Addr
  d_law_hash : FuncData
  F_law_hash : DefAt K "_law_hash" s_law_hash a_law_hash d_law_hash
  g_law_hash : mg "_law_hash" = some (.ref a_law_hash)
  a_law_random : Addr
  d_law_random : FuncData
  F_law_random : DefAt K "_law_random" s_law_random a_law_random d_law_random
  g_law_random : mg "_law_random" = some (.ref a_law_random)
  a_law_cell : Addr
  d_law_cell : FuncData
  F_law_cell : DefAt K "_law_cell" s_law_cell a_law_cell d_law_cell
  g_law_cell : mg "_law_cell" = some (.ref a_law_cell)
  a_law_generator : Addr
  d_law_generator : FuncData
  F_law_generator : DefAt K "_law_generator" s_law_generator a_law_generator d_law_generator
  g_law_generator : mg "_law_generator" = some (.ref a_law_generator)
  a_law_lots : Addr
  d_law_lots : FuncData
  F_law_lots : DefAt K "_law_lots" s_law_lots a_law_lots d_law_lots
  g_law_lots : mg "_law_lots" = some (.ref a_law_lots)
  a_law_inside : Addr
  d_law_inside : FuncData
  F_law_inside : DefAt K "_law_inside" s_law_inside a_law_inside d_law_inside
  g_law_inside : mg "_law_inside" = some (.ref a_law_inside)
  a_law_least : Addr
  d_law_least : FuncData
  F_law_least : DefAt K "_law_least" s_law_least a_law_least d_law_least
  g_law_least : mg "_law_least" = some (.ref a_law_least)
  a_law_due : Addr
  d_law_due : FuncData
  F_law_due : DefAt K "_law_due" s_law_due a_law_due d_law_due
  g_law_due : mg "_law_due" = some (.ref a_law_due)
  a_law_right : Addr
  d_law_right : FuncData
  F_law_right : DefAt K "_law_right" s_law_right a_law_right d_law_right
  g_law_right : mg "_law_right" = some (.ref a_law_right)
  a_law : Addr
  d_law : FuncData
  F_law : DefAt K "law" s_law a_law d_law
  g_law : mg "law" = some (.ref a_law)
  z_all : mg "all" = none
  z_any : mg "any" = none
  z_bool : mg "bool" = none
  z_enumerate : mg "enumerate" = none
  z_int : mg "int" = none
  z_isinstance : mg "isinstance" = none
  z_len : mg "len" = none
  z_list : mg "list" = none
  z_max : mg "max" = none
  z_range : mg "range" = none
  z_repr : mg "repr" = none
  z_sorted : mg "sorted" = none
  z_sum : mg "sum" = none
  z_zip : mg "zip" = none
  c_MOST_CROSSED : ∃ u, mg "MOST_CROSSED" = some u ∧ RelV (.int 8) u
section
variable {K : PySem.W.Frag} {mg : Str → Option Value}
theorem Tx.b_is_whole (T : Tx K mg) : Binds K T.d_is_whole ["value"] [] := T.F_is_whole.bindsN fun _ _ _ _ _ _ us hl => match us, hl with | [_], _ => rfl
theorem Tx.b_is_count_to (T : Tx K mg) : Binds K T.d_is_count_to ["value", "most"] [] := T.F_is_count_to.bindsN fun _ _ _ _ _ _ us hl => match us, hl with | [_, _], _ => rfl
theorem Tx.b_ascends (T : Tx K mg) : Binds K T.d_ascends ["items"] [] := T.F_ascends.bindsN fun _ _ _ _ _ _ us hl => match us, hl with | [_], _ => rfl
theorem Tx.b_mask_of (T : Tx K mg) : Binds K T.d_mask_of ["stands"] [] := T.F_mask_of.bindsN fun _ _ _ _ _ _ us hl => match us, hl with | [_], _ => rfl
theorem Tx.b_stands_of (T : Tx K mg) : Binds K T.d_stands_of ["mask"] [] := T.F_stands_of.bindsN fun _ _ _ _ _ _ us hl => match us, hl with | [_], _ => rfl
theorem Tx.b_crossing (T : Tx K mg) : Binds K T.d_crossing ["many", "lots"] [] := T.F_crossing.bindsN fun _ _ _ _ _ _ us hl => match us, hl with | [_, _], _ => rfl
theorem Tx.b_is_lot (T : Tx K mg) : Binds K T.d_is_lot ["value", "many"] [] := T.F_is_lot.bindsN fun _ _ _ _ _ _ us hl => match us, hl with | [_, _], _ => rfl
theorem Tx.b_one_fewer (T : Tx K mg) : Binds K T.d_one_fewer ["mask"] [] := T.F_one_fewer.bindsN fun _ _ _ _ _ _ us hl => match us, hl with | [_], _ => rfl
theorem Tx.b_least_masks (T : Tx K mg) : Binds K T.d_least_masks ["marks"] [] := T.F_least_masks.bindsN fun _ _ _ _ _ _ us hl => match us, hl with | [_], _ => rfl
theorem Tx.b_lots_told (T : Tx K mg) : Binds K T.d_lots_told ["masks"] [] := T.F_lots_told.bindsN fun _ _ _ _ _ _ us hl => match us, hl with | [_], _ => rfl
theorem Tx.b_law_hash (T : Tx K mg) : Binds K T.d_law_hash ["_law_seed", "_law_index"] [] := T.F_law_hash.bindsN fun _ _ _ _ _ _ us hl => match us, hl with | [_, _], _ => rfl
theorem Tx.b_law_random (T : Tx K mg) : Binds K T.d_law_random ["_law_generator_here", "_law_bound"] [] := T.F_law_random.bindsN fun _ _ _ _ _ _ us hl => match us, hl with | [_, _], _ => rfl
theorem Tx.b_law_cell (T : Tx K mg) : Binds K T.d_law_cell ["_law_script", "_law_index"] [] := T.F_law_cell.bindsN fun _ _ _ _ _ _ us hl => match us, hl with | [_, _], _ => rfl
theorem Tx.b_law_generator (T : Tx K mg) : Binds K T.d_law_generator ["_law_script", "_law_index"] [] := T.F_law_generator.bindsN fun _ _ _ _ _ _ us hl => match us, hl with | [_, _], _ => rfl
theorem Tx.b_law_lots (T : Tx K mg) : Binds K T.d_law_lots ["_law_many_told"] [] := T.F_law_lots.bindsN fun _ _ _ _ _ _ us hl => match us, hl with | [_], _ => rfl
theorem Tx.b_law_inside (T : Tx K mg) : Binds K T.d_law_inside ["_law_low", "_law_high"] [] := T.F_law_inside.bindsN fun _ _ _ _ _ _ us hl => match us, hl with | [_, _], _ => rfl
theorem Tx.b_law_least (T : Tx K mg) : Binds K T.d_law_least ["_law_lots_told"] [] := T.F_law_least.bindsN fun _ _ _ _ _ _ us hl => match us, hl with | [_], _ => rfl
theorem Tx.b_law_due (T : Tx K mg) : Binds K T.d_law_due ["_law_many_told", "_law_lots_told"] [] := T.F_law_due.bindsN fun _ _ _ _ _ _ us hl => match us, hl with | [_, _], _ => rfl
theorem Tx.b_law_right (T : Tx K mg) : Binds K T.d_law_right ["_law_generator_here"] [] := T.F_law_right.bindsN fun _ _ _ _ _ _ us hl => match us, hl with | [_], _ => rfl
theorem Tx.b_law (T : Tx K mg) : Binds K T.d_law ["_law_script"] [] := T.F_law.bindsN fun _ _ _ _ _ _ us hl => match us, hl with | [_], _ => rfl
theorem Tx.w_crossing_lots_many (T : Tx K mg) : KwB T.d_crossing ["many", "lots"] ["lots", "many"] (fun ws => match ws with | [x0, x1] => [x1, x0] | _ => []) (fun ws => match ws with | [x0, x1] => [x1, x0] | _ => []) := by
  obtain ⟨oc, od, dV, kV, doc, pm, an, cdv, ct, osl, e, _, _, hD, _⟩ := T.F_crossing.ex
  have ed : dV = .none := hD.elim And.right fun z => (z.1 rfl).elim
  subst ed
  refine ⟨fun s ws hl => ?_, fun {zs ws} hl r => ?_⟩
  · rw [e]
    match ws, hl with | [_, _], _ => exact .of_eq rfl
  · match zs, ws, r with | [_, _], [_, _], .cons r0 (.cons r1 .nil) => exact .cons r1 (.cons r0 .nil)
end

/-! ### the law's own random numbers -/
section
variable {P : Program} {w : World} {K : PySem.W.Frag} {mg : Str → Option Value} {base : Heap}
/-- the seed is a rest by 2147483647, the index not far -/
def spHash : Sp := fun vs H Q _ => ∃ a b : Int, vs = [.int a, .int b] ∧ 0 ≤ a ∧ a < 2147483648 ∧ 0 ≤ b ∧ b < 4294967296 ∧ ∀ r : Int, 0 ≤ r → r < 2147483647 → Q (.int r) H
theorem nlt {i : Int} {n : Nat} (h0 : 0 ≤ i) (h : i < 2 ^ n) : i.natAbs < 2 ^ n := by
  have e : ((2 ^ n : Nat) : Int) = (2 : Int) ^ n := by rw [Int.natCast_pow]; rfl
  omega
theorem ok_law_hash (T : Tx K mg) : FnG P w K mg base CX0 1 T.a_law_hash T.d_law_hash ["_law_seed", "_law_index"] spHash := by
  refine bodyG0 T.F_law_hash sc_law_hash (fun vs H Q E h => ?_) (fun cdv A outer s H vs Q E gd hr h => ?_)
  · obtain ⟨a, b, rfl, _⟩ := h; rfl
  · obtain ⟨a, b, rfl, a0, a1, b0, b1, q⟩ := h
    refine ⟨_, (pss_cons (ps_set (i := 2) sc_law_hash.nd rfl (Or.inl rfl) (pe_op op_mod (pe_callTy call_int1 (by rfl) T.z_int (by decide +kernel) (pa_cons (pe_op op_add (pe_op op_add (pe_op op_add (pe_op op_mulX (pv 0) pe_int) (pe_op op_mulX (pe_op op_mulX pe_int (pv 1)) (pv 1))) (pe_op op_mulX pe_int (pv 1))) pe_int) pa_nil)) pe_int))
      (pss_cons (ps_set (i := 2) sc_law_hash.nd rfl (Or.inl rfl) (pe_op op_mod (pe_callTy call_int1 (by rfl) T.z_int (by decide +kernel) (pa_cons (pe_op op_add (pe_op op_add (pe_op op_mulX (pv 2) (pv 2)) (pe_op op_mulX pe_int (pv 1))) pe_int) pa_nil)) pe_int))
      (pss_one (ps_ret (pe_op op_mod (pe_callTy call_int1 (by rfl) T.z_int (by decide +kernel) (pa_cons (pe_op op_mulX (pv 2) pe_int) pa_nil)) pe_int))))), ?_⟩
    have ha : a.natAbs < 2 ^ 31 := nlt a0 a1
    have hb : b.natAbs < 2 ^ 32 := nlt b0 b1
    refine ⟨_, rfl, _, _, rfl, rfl, mulx_ok ha (b := 31) (by decide) (by decide), _, rfl, _, _, rfl, rfl, mulx_ok (a := 31) (by decide) hb (by decide), _, rfl, _, _, rfl, rfl, mulx_ok (wide_lt (a := 31) (by decide) hb) hb (by decide), _, _, rfl, rfl, _, rfl, _, _, rfl, rfl, mulx_ok (a := 31) (by decide) hb (by decide), _, _, rfl, rfl, _, _, rfl, rfl, .inl ⟨_, rfl, _, _, rfl, rfl, (by decide : (0 : Int) < 2147483629), ?_⟩⟩
    dsimp only
    generalize (a * 1140671 + 27644437 * b * b + 131 * b + 19) = x1
    have x0 := Int.emod_nonneg x1 (by decide : (2147483629 : Int) ≠ 0)
    have x2 := Int.emod_lt_of_pos x1 (by decide : (0 : Int) < 2147483629)
    generalize x1 % 2147483629 = x at x0 x2
    have hx : x.natAbs < 2 ^ 31 := nlt x0 (by omega)
    refine ⟨_, rfl, _, rfl, _, _, rfl, rfl, mulx_ok hx hx (by decide), _, rfl, _, _, rfl, rfl, mulx_ok (a := 31) (by decide) hb (by decide), _, _, rfl, rfl, _, _, rfl, rfl, .inl ⟨_, rfl, _, _, rfl, rfl, (by decide : (0 : Int) < 2147483587), ?_⟩⟩
    dsimp only
    generalize (x * x + 62089 * b + 32416187) = y1
    have y0 := Int.emod_nonneg y1 (by decide : (2147483587 : Int) ≠ 0)
    have y2 := Int.emod_lt_of_pos y1 (by decide : (0 : Int) < 2147483587)
    generalize y1 % 2147483587 = y at y0 y2
    have hy : y.natAbs < 2 ^ 31 := nlt y0 (by omega)
    refine ⟨_, rfl, _, _, rfl, rfl, mulx_ok hy (b := 31) (by decide) (by decide), .inl ⟨_, rfl, _, _, rfl, rfl, (by decide : (0 : Int) < 2147483647), ?_⟩⟩
    exact q _ (Int.emod_nonneg _ (by decide)) (Int.emod_lt_of_pos _ (by decide))

/-- the generator: what is left of a great seed, the seed's rest, the index -/
structure GenOk (s t c m : Int) : Prop where
  s0 : 0 ≤ s
  s1 : s < 2 ^ 2000
  t0 : 0 ≤ t
  t1 : t < 2147483648
  c0 : 0 ≤ c
  c1 : c ≤ m
def genL (s t c : Int) : HO := .lst [.int s, .int t, .int c]
/-- a draw below a bound: the generator's list at a is another one; the index grows by a hundred at most -/
def spRandom : Sp := fun vs H Q _ => ∃ (a : Addr) (b s t c m : Int), vs = [.ref a, .int b] ∧ H a = some (genL s t c) ∧ GenOk s t c m ∧ m + 100 < 4294967296 ∧ 0 < b ∧ b < 2 ^ 2000 ∧
  ∀ (r s' c' : Int), 0 ≤ r → r < b → GenOk s' t c' (m + 100) → Q (.int r) (upd H a (genL s' t c'))
theorem bits_le_of {b : Int} {n : Nat} (h0 : 0 ≤ b) (h : b < 2 ^ n) : Builtin.Int.intBits b ≤ n := PyProof.Rows.intBits_le (nlt h0 h)
theorem ok_law_random (T : Tx K mg) : FnG P w K mg base CX0 2 T.a_law_random T.d_law_random ["_law_generator_here", "_law_bound"] spRandom := by
  have G_law_hash := ok_law_hash (P := P) (w := w) (base := base) T
  refine bodyG0 T.F_law_random sc_law_random (fun vs H Q E h => ?_) (fun cdv A outer s H vs Q E gd hr h => ?_)
  · obtain ⟨a, b, s, t, c, m, rfl, _⟩ := h; rfl
  · obtain ⟨a, b, s, t, c, m, rfl, hg, ok, hm, b0, b1, q⟩ := h
    obtain ⟨s0, s1, t0, t1, c0, c1⟩ := ok
    have sq : SqL K H a [.int s, .int t, .int c] := .inl (.inl hg)
    refine ⟨_, (pss_cons (ps_if (pt_cmpR op_gt (pe_ix (ix_listK (K := K) rfl) (pv 0) pe_int (fun _ _ => rfl)) pe_int (nomark _)) (pss_cons (ps_set (i := 2) sc_law_random.nd rfl (Or.inl rfl) (pe_op op_mod (pe_callTy call_int1 (by rfl) T.z_int (by decide +kernel) (pa_cons (pe_ix (ix_listK (K := K) rfl) (pv 0) pe_int (fun _ _ => rfl)) pa_nil)) (pv 1)))
      (pss_cons (ps_asg (pe_op op_fdivW (pe_ix (ix_listK (K := K) rfl) (pv 0) pe_int (fun _ _ => rfl)) (pv 1)) (pg_sub (pv 0) pe_int set_list))
      (pss_one (ps_ret (pv 2))))) pss_nil)
      (pss_cons (ps_set (i := 2) sc_law_random.nd rfl (Or.inl rfl) pe_int)
      (pss_cons (ps_for PassesOwn.never rfl (pi_range1 (by rfl) T.z_range (pa_cons (pe_op op_add pe_int (pe_op op_fdivW (pe_bits (pv 1)) pe_int)) pa_nil)) (pg_name (i := 3) sc_law_random.nd rfl (Or.inl rfl)) (pss_cons (ps_asg (pe_op op_add (pe_ix (ix_listK (K := K) rfl) (pv 0) pe_int (fun _ _ => rfl)) pe_int) (pg_sub (pv 0) pe_int set_list))
      (pss_one (ps_set (i := 2) sc_law_random.nd rfl (Or.inl rfl) (pe_op op_add (pe_op op_mulX (pv 2) pe_int) (pe_g G_law_hash gd (hr.mono (by decide)) (by rfl) T.g_law_hash T.F_law_hash.kp T.b_law_hash .nil pass0 (pa_cons (pe_ix (ix_listK (K := K) rfl) (pv 0) pe_int (fun _ _ => rfl)) (pa_cons (pe_ix (ix_listK (K := K) rfl) (pv 0) pe_int (fun _ _ => rfl)) pa_nil))))))))
      (pss_one (ps_ret (pe_op op_mod (pe_callTy call_int1 (by rfl) T.z_int (by decide +kernel) (pa_cons (pv 2) pa_nil)) (pv 1))))))), ?_⟩
    refine ⟨_, rfl, _, _, _, _, rfl, rfl, sq, atI_nat (j := 0) rfl, _, _, rfl, rfl, _, rfl, ?_⟩
    by_cases hs : 0 < s
    · rw [decide_eq_true hs]
      refine iteT ⟨_, rfl, _, _, _, _, rfl, rfl, sq, atI_nat (j := 0) rfl, .inl ⟨_, rfl, _, rfl, _, _, rfl, rfl, b0, ?_⟩⟩
      refine ⟨_, rfl, _, _, _, _, rfl, rfl, sq, atI_nat (j := 0) rfl, _, rfl, _, _, rfl, rfl, wide_div b0 (nlt (Int.le_of_lt b0) b1) (by decide) (by decide), ?_⟩
      refine ⟨_, rfl, a, _, _, 0, rfl, rfl, hg, rfl, ?_⟩
      refine ⟨_, rfl, ?_⟩
      have d0 := Int.ediv_nonneg s0 (Int.le_of_lt b0)
      have d1 : s / b ≤ s := Int.ediv_le_self b s0
      exact q _ _ _ (Int.emod_nonneg _ (by omega)) (Int.emod_lt_of_pos _ b0) ⟨d0, by omega, t0, t1, c0, by omega⟩
    · rw [decide_eq_false hs]
      refine iteF ?_
      have hbits := bits_le_of (Int.le_of_lt b0) b1
      have hq : ((1 : Int) + (Builtin.Int.intBits b : Nat) / 30) = ((1 + Builtin.Int.intBits b / 30 : Nat) : Int) := by rw [Int.natCast_add, Int.natCast_ediv]; rfl
      refine ⟨_, rfl, b, rfl, _, _, rfl, rfl, wide_div (b := 5) (by decide) (by decide) (by decide) (by decide), _, _, rfl, rfl, ((1 + Builtin.Int.intBits b / 30 : Nat) : Int), by rw [← hq], by omega, by omega, ?_⟩
      refine for_range (n := 1 + Builtin.Int.intBits b / 30) (fun i σ H' => ∃ (d : Int) (y : Option V), σ = [some (.ref a), some (.int b), some (.int d), y] ∧ H' = upd H a (genL s t (c + i)) ∧ 0 ≤ d ∧ d < 2 ^ (31 * i)) ⟨0, none, rfl, ?_, by decide, by decide⟩ ?_ ?_
      · rw [show c + ((0 : Nat) : Int) = c by omega]
        funext x
        unfold upd
        by_cases hx : x = a
        · rw [if_pos hx, hx, hg]
        · rw [if_neg hx]
      · rintro i σ H' hi ⟨d, y, rfl, rfl, d0, d1⟩
        have up : (upd H a (genL s t (c + i))) a = some (genL s t (c + i)) := upd_same
        have sq1 : SqL K (upd H a (genL s t (c + i))) a [.int s, .int t, .int (c + i)] := .inl (.inl up)
        refine ⟨_, rfl, _, _, _, _, rfl, rfl, sq1, atI_nat (j := 2) rfl, _, _, rfl, rfl, _, rfl, a, _, _, 2, rfl, rfl, up, rfl, ?_⟩
        have up2 : (upd (upd H a (genL s t (c + i))) a (.lst ([V.int s, .int t, .int (c + i)].set 2 (.int (c + i + 1))))) a = some (genL s t (c + i + 1)) := upd_same
        have sq2 : SqL K (upd (upd H a (genL s t (c + i))) a (.lst ([V.int s, .int t, .int (c + i)].set 2 (.int (c + i + 1))))) a [.int s, .int t, .int (c + i + 1)] := .inl (.inl up2)
        refine ⟨_, rfl, _, _, rfl, rfl, mulx_ok (nlt d0 d1) (b := 31) (by decide) (by omega), ?_⟩
        refine ⟨_, rfl, _, _, _, _, rfl, rfl, sq2, atI_nat (j := 1) rfl, _, rfl, _, _, _, _, rfl, rfl, sq2, atI_nat (j := 2) rfl, _, _, rfl, t0, t1, by omega, by omega, fun r r0 r1 => ⟨_, _, rfl, rfl, ?_⟩⟩
        refine ⟨d * 2147483587 + r, _, rfl, ?_, by omega, ?_⟩
        · rw [show c + ((i + 1 : Nat) : Int) = c + i + 1 by omega]
          exact upd_upd
        · have e : (2 : Int) ^ (31 * (i + 1)) = 2 ^ (31 * i) * 2147483648 := by
            rw [Nat.mul_add, Int.pow_add]; rfl
          have p : (1 : Int) ≤ 2 ^ (31 * i) := Int.pow_pos (by decide)
          rw [e]
          generalize (2 : Int) ^ (31 * i) = B at d1 p
          omega
      · rintro σ H' ⟨d, y, rfl, rfl, d0, d1⟩
        refine ⟨_, rfl, .inl ⟨_, rfl, _, rfl, _, _, rfl, rfl, b0, ?_⟩⟩
        exact q _ _ _ (Int.emod_nonneg _ (by omega)) (Int.emod_lt_of_pos _ b0) ⟨s0, s1, t0, t1, by omega, by omega⟩

theorem same_new {H : Hp} {p : Addr} {o : HO} (h : H p = none) : Same H (upd H p o) := fun b x e => by
  rw [upd_ne (ne_of_none e h)]
  exact e
theorem cut_first {α : Type} (f : α → V) (xs : List α) : cutV (xs.map f) none (some 1) = (xs.take 1).map f := by
  unfold cutV
  rw [HT.sIx_none, show HT.sIx (xs.map f).length (xs.map f).length (some 1) = min 1 (xs.map f).length from HT.sIx_nat _ _ 1]
  cases xs with
  | nil => rfl
  | cons x r =>
    rw [show min 1 ((x :: r).map f).length = 1 by rw [List.length_map, List.length_cons]; omega]
    rfl
def spCell (K : PySem.W.Frag) : Sp := fun vs H Q _ => ∃ (a : Addr) (ns : List Int) (j : Nat), vs = [.ref a, .int j] ∧ SqL K H a (ns.map V.int) ∧ ∀ (r : Int) (H' : Hp), Same H H' → Q (.int r) H'
theorem ok_law_cell (T : Tx K mg) : FnG P w K mg base CX0 1 T.a_law_cell T.d_law_cell ["_law_script", "_law_index"] (spCell K) := by
  refine bodyG0 T.F_law_cell sc_law_cell (fun vs H Q E h => ?_) (fun cdv A outer s H vs Q E gd hr h => ?_)
  · obtain ⟨a, ns, j, rfl, _⟩ := h; rfl
  · obtain ⟨a, ns, j, rfl, hS, q⟩ := h
    refine ⟨_, (pss_cons (ps_if (pt_cmpR op_lt (pv 1) (pe_callB (call_lenK (K := K) rfl) (by rfl) T.z_len (by decide +kernel) (pa_cons (pv 0) pa_nil)) (nomark _)) (pss_one (ps_ret (pe_ix (ix_listK (K := K) rfl) (pv 0) (pv 1) (fun _ _ => rfl)))) pss_nil)
      (pss_one (ps_ret (pe_op op_mod (pe_callB (cr_sumK (K := K) rfl rfl) (by rfl) T.z_sum (by decide +kernel) (pa_cons (pe_slice (sl_listK (K := K) rfl) (pv 0) po_none (po_some pe_int)) pa_nil)) pe_int)))), ?_⟩
    refine ⟨_, rfl, _, rfl, a, _, rfl, .inl hS, _, _, rfl, rfl, _, rfl, ?_⟩
    by_cases hj : ((j : Nat) : Int) < ((ns.map V.int).length : Nat)
    · rw [decide_eq_true hj]
      have hj2 : j < ns.length := by rw [List.length_map] at hj; omega
      refine iteT ⟨_, rfl, _, rfl, _, _, _, _, rfl, rfl, hS, atI_nat (j := j) (v := .int (ns[j])) ?_, q _ _ (Same.refl H)⟩
      rw [List.getElem?_map, List.getElem?_eq_getElem hj2]
      rfl
    · rw [decide_eq_false hj]
      refine iteF ⟨_, rfl, 1, rfl, a, _, rfl, hS, fun p hp => ?_⟩
      refine ⟨p, ns.take 1, rfl, .inl (.inl ?_), _, _, rfl, rfl, (by decide : (0 : Int) < 1000003), q _ _ (same_new hp)⟩
      rw [upd_same, cut_first]
def spGenerator (K : PySem.W.Frag) : Sp := fun vs H Q _ => ∃ (a : Addr) (ns : List Int) (j : Nat), vs = [.ref a, .int j] ∧ j ≤ 1000 ∧ SqL K H a (ns.map V.int) ∧
  ∀ (g : Addr) (H' : Hp) (s t c : Int), Same H H' → H g = none → H' g = some (genL s t c) → GenOk s t c (1000 * j) → Q (.ref g) H'
theorem ok_law_generator (T : Tx K mg) : FnG P w K mg base CX0 2 T.a_law_generator T.d_law_generator ["_law_script", "_law_index"] (spGenerator K) := by
  have G_law_cell := ok_law_cell (P := P) (w := w) (base := base) T
  refine bodyG0 T.F_law_generator sc_law_generator (fun vs H Q E h => ?_) (fun cdv A outer s H vs Q E gd hr h => ?_)
  · obtain ⟨a, ns, j, rfl, _⟩ := h; rfl
  · obtain ⟨a, ns, j, rfl, hj, hS, q⟩ := h
    refine ⟨_, (pss_cons (ps_set (i := 2) sc_law_generator.nd rfl (Or.inl rfl) (pe_g G_law_cell gd (hr.mono (by decide)) (by rfl) T.g_law_cell T.F_law_cell.kp T.b_law_cell .nil pass0 (pa_cons (pv 0) (pa_cons (pv 1) pa_nil))))
      (pss_one (ps_ret (pe_lst (pa_cons (pe_op op_mod (pe_callTy call_int1 (by rfl) T.z_int (by decide +kernel) (pa_cons (pe_callB (call_max2 rfl) (by rfl) T.z_max (by decide +kernel) (pa_cons (pe_op op_sub (pv 2) (pe_op op_powW pe_int pe_int)) (pa_cons pe_int pa_nil))) pa_nil)) (pe_op op_powW (pe_op op_powW pe_int pe_int) pe_int)) (pa_cons (pe_op op_mod (pe_callTy call_int1 (by rfl) T.z_int (by decide +kernel) (pa_cons (pv 2) pa_nil)) pe_int) (pa_cons (pe_op op_mulX pe_int (pv 1)) pa_nil))))))), ?_⟩
    refine ⟨_, rfl, _, rfl, a, ns, j, rfl, hS, fun r H' sm => ?_⟩
    have e10 : ((10 : Int) ^ 60).natAbs < 2 ^ 200 := by decide +kernel
    refine ⟨_, rfl, _, _, rfl, rfl, powW_ok (n := 4) (j := 18) (by decide) (by decide), _, _, rfl, rfl, _, _, rfl, .inl ⟨_, rfl, ?_⟩⟩
    refine ⟨_, _, rfl, rfl, powW_ok (n := 4) (j := 60) (by decide) (by decide), _, _, rfl, rfl, powW_ok (n := 200) (j := 10) e10 (by decide), _, _, rfl, rfl, (by decide +kernel : (0 : Int) < (10 ^ 60) ^ 10), ?_⟩
    refine ⟨_, rfl, .inl ⟨_, rfl, _, _, rfl, rfl, (by decide : (0 : Int) < 2147483647), ?_⟩⟩
    refine ⟨_, rfl, _, _, rfl, rfl, mulx_ok (a := 10) (b := 10) (by decide) (by omega) (by decide), by show 3 ≤ sizeLine; rw [sizeLine_eq]; decide, fun g hg => ?_⟩
    have big : ((10 : Int) ^ 60) ^ 10 < 2 ^ 2000 := by decide +kernel
    have m1 := Int.emod_lt_of_pos (if r - 10 ^ 18 < 0 then 0 else r - 10 ^ 18) (by decide +kernel : (0 : Int) < (10 ^ 60) ^ 10)
    refine q g _ _ _ _ (sm.trans (same_new hg)) (sm.free hg) upd_same ⟨Int.emod_nonneg _ (by decide +kernel), Int.lt_trans (Int.emod_lt_of_pos _ (by decide +kernel)) big, Int.emod_nonneg _ (by decide), Int.lt_trans (Int.emod_lt_of_pos _ (by decide)) (by decide), by omega, by omega⟩
end

/-- the generator stands at a, its index is at most m -/
def Gn (a : Addr) (t m : Int) (H : Hp) : Prop := ∃ s c : Int, H a = some (genL s t c) ∧ GenOk s t c m
theorem GenOk.up {s t c m m' : Int} (o : GenOk s t c m) (h : m ≤ m') : GenOk s t c m' := ⟨o.s0, o.s1, o.t0, o.t1, o.c0, Int.le_trans o.c1 h⟩
theorem Gn.up {a : Addr} {t m m' : Int} {H : Hp} (g : Gn a t m H) (h : m ≤ m') : Gn a t m' H := by
  obtain ⟨s, c, e, o⟩ := g
  exact ⟨s, c, e, o.up h⟩
theorem Gn.keep {a p : Addr} {t m : Int} {H : Hp} {o : HO} (g : Gn a t m H) (h : p ≠ a) : Gn a t m (upd H p o) := by
  obtain ⟨s, c, e, k⟩ := g
  exact ⟨s, c, by rw [upd_ne h.symm]; exact e, k⟩
theorem Gn.same {a : Addr} {t m : Int} {H H' : Hp} (g : Gn a t m H) (s : Same H H') : Gn a t m H' := by
  obtain ⟨x, c, e, k⟩ := g
  exact ⟨x, c, s _ _ e, k⟩
theorem Gn.ne {a p : Addr} {t m : Int} {H : Hp} (g : Gn a t m H) (h : H p = none) : p ≠ a := fun e => by
  obtain ⟨s, c, q, _⟩ := g
  rw [e, q] at h
  cases h
theorem off_mono {D : Addr} {H H' : Hp} (e : Same H H') : Same (off D H) (off D H') := fun b o h => by
  obtain ⟨n, h⟩ := off_at h
  exact off_of n (e b o h)
theorem off_upd {D : Addr} {H : Hp} {o : HO} : off D (upd H D o) = off D H := by
  funext b
  unfold off
  by_cases h : b = D
  · rw [if_pos h, if_pos h]
  · rw [if_neg h, if_neg h, upd_ne h]
theorem SameX.new {a p : Addr} {H H' : Hp} {o : HO} (e : SameX a H H') (h : H p = none) : SameX a H (upd H' p o) := fun b x n hb => by
  rw [upd_ne (ne_of_none hb h)]
  exact e b x n hb
theorem SameX.free {a p : Addr} {t m : Int} {H H' : Hp} (e : SameX a H H') (g : Gn a t m H') (h : H' p = none) : H p = none := by
  cases q : H p with
  | none => rfl
  | some o =>
    have := e p o (g.ne h) q
    rw [h] at this
    cases this
section
variable {P : Program} {w : World} {K : PySem.W.Frag} {mg : Str → Option Value} {base : Heap}
def spRnd : Sp := fun vs H Q _ => ∃ (a : Addr) (b : Nat) (t m : Int), vs = [.ref a, .int b] ∧ Gn a t m H ∧ m + 100 < 4294967296 ∧ 0 < b ∧ b < 2 ^ 2000 ∧
  ∀ (r : Nat) (H' : Hp), r < b → SameX a H H' → Gn a t (m + 100) H' → Q (.int r) H'
theorem ok_rnd (T : Tx K mg) : FnG P w K mg base CX0 2 T.a_law_random T.d_law_random ["_law_generator_here", "_law_bound"] spRnd := by
  refine (ok_law_random T).weak fun vs H Q E h => ?_
  obtain ⟨a, b, t, m, rfl, ⟨s, c, e, ok⟩, hm, b0, b1, q⟩ := h
  have b2 : (b : Int) < 2 ^ 2000 := by
    have : ((2 ^ 2000 : Nat) : Int) = (2 : Int) ^ 2000 := by rw [Int.natCast_pow]; rfl
    rw [← this]
    exact Int.ofNat_lt.mpr b1
  refine ⟨a, b, s, t, c, m, rfl, e, ok, hm, by omega, b2, fun r s' c' r0 r1 ok' => ?_⟩
  have q := q r.toNat (upd H a (genL s' t c')) (by omega) SameX.upd ⟨s', c', upd_same, ok'⟩
  rw [Int.toNat_of_nonneg r0] at q
  exact q
end

end K63

set_option Elab.async false
set_option linter.all false
set_option maxRecDepth 100000
set_option maxHeartbeats 4000000
namespace K63
open PySem PySem.Spec PyProof.Rows L2 Hw
section
variable {P : Program} {w : World} {K : PySem.W.Frag} {mg : Str → Option Value} {base : Heap}

def whole (d : PyData) : Bool := isInt d && !isBool d
def cnt (d : PyData) (m : Int) : Bool := match d with
  | .int i => decide (0 ≤ i) && decide (i ≤ m)
  | _ => false
def spWhole : Sp := fun vs H Q _ => ∃ (x : V) (d : PyData), vs = [x] ∧ Dt H x d ∧ Q (.bl (whole d)) H
theorem ok_is_whole (T : Tx K mg) : FnG P w K mg base CX0 1 T.a_is_whole T.d_is_whole ["value"] spWhole := by
  refine bodyG0 T.F_is_whole sc_is_whole (fun vs H Q E h => ?_) (fun cdv A outer s H vs Q E gd hr h => ?_)
  · obtain ⟨x, d, rfl, _⟩ := h; rfl
  · obtain ⟨x, d, rfl, hd, q⟩ := h
    refine ⟨_, (pss_one (ps_ret (pe_and (pe_callB call_isD (by rfl) T.z_isinstance (by decide +kernel) (pa_cons (pv 0) (pa_cons (pe_bltn (v := .ty "int") (by rfl) T.z_int (by decide +kernel) rfl) pa_nil))) (pe_one (pe_not (pe_callB call_isD (by rfl) T.z_isinstance (by decide +kernel) (pa_cons (pv 0) (pa_cons (pe_bltn (v := .ty "bool") (by rfl) T.z_bool (by decide +kernel) rfl) pa_nil)))))))), ?_⟩
    refine ⟨_, rfl, x, d, _, _, rfl, hd, kit_int d, _, rfl, ?_⟩
    unfold whole at q
    cases hi : isInt d with
    | true =>
      rw [hi] at q
      exact iteT ⟨_, rfl, x, d, _, _, rfl, hd, kit_bool d, _, rfl, q⟩
    | false =>
      rw [hi] at q
      exact iteF q

def spCountTo : Sp := fun vs H Q _ => ∃ (x : V) (d : PyData) (m : Int), vs = [x, .int m] ∧ Dt H x d ∧ Q (.bl (cnt d m)) H
theorem ok_is_count_to (T : Tx K mg) : FnG P w K mg base CX0 2 T.a_is_count_to T.d_is_count_to ["value", "most"] spCountTo := by
  have G_is_whole := ok_is_whole (P := P) (w := w) (base := base) T
  refine bodyG0 T.F_is_count_to sc_is_count_to (fun vs H Q E h => ?_) (fun cdv A outer s H vs Q E gd hr h => ?_)
  · obtain ⟨x, d, m, rfl, _⟩ := h; rfl
  · obtain ⟨x, d, m, rfl, hd, q⟩ := h
    refine ⟨_, (pss_one (ps_ret (pe_and (pe_g G_is_whole gd (hr.mono (by decide)) (by rfl) T.g_is_whole T.F_is_whole.kp T.b_is_whole .nil pass0 (pa_cons (pv 0) pa_nil)) (pe_one (pe_chain op_le op_le pe_int (pv 0) (pv 1)))))), ?_⟩
    refine ⟨_, rfl, x, d, rfl, hd, _, rfl, ?_⟩
    cases hd with
    | int i =>
      refine iteT ⟨_, rfl, _, _, rfl, rfl, _, rfl, ?_⟩
      have q : Q (.bl (decide (0 ≤ i) && decide (i ≤ m))) H := q
      by_cases h0 : 0 ≤ i
      · rw [decide_eq_true h0] at q ⊢
        exact iteT ⟨_, rfl, _, _, rfl, rfl, q⟩
      · rw [decide_eq_false h0] at q ⊢
        exact iteF q
    | _ => exact iteF q
theorem all_true {α : Type} : ∀ l : List α, (l.map fun _ => true).all id = true
  | [] => rfl
  | _ :: r => by rw [List.map_cons, List.all_cons, all_true r]; rfl
theorem small1000 {n : Nat} (h : n ≤ 1000) : n < sizeLine := by rw [sizeLine_eq]; omega
theorem natV_len (l : List Nat) : (natV l).length = l.length := List.length_map ..

/-- the list ascends -/
def spAsc : Sp := fun vs H Q _ => ∃ (x : V) (l : List Nat), vs = [x] ∧ Dt H x (lotD l) ∧ l.Pairwise (· < ·) ∧ l.length ≤ 1000 ∧ ∀ H', Same H H' → Q (.bl true) H'
theorem ok_ascends (T : Tx K mg) : FnG P w K mg base CX0 1 T.a_ascends T.d_ascends ["items"] spAsc := by
  refine bodyG0 T.F_ascends sc_ascends (fun vs H Q E h => ?_) (fun cdv A outer s H vs Q E gd hr h => ?_)
  · obtain ⟨x, l, rfl, _⟩ := h; rfl
  · obtain ⟨x, l, rfl, hd, pw, hl, q⟩ := h
    refine ⟨_, (pss_one (ps_ret (pe_callB (cr_allK (K := K) rfl rfl) (by rfl) T.z_all (by decide +kernel) (pa_cons (pe_lc (own := [("one", 1), ("other", 2)]) (g := gTup K 2 (gCons (gName 1) (gCons (gName 2) gNil))) (tt := tYes) rfl sc_ascends.nd (pi_zipK (K := K) rfl (by rfl) T.z_zip (pa_cons (pv 0) (pa_cons (pe_slice (sl_listK (K := K) rfl) (pv 0) (po_some pe_int) po_none) pa_nil))) (blkOk_by (N := ["items", "one", "other"]) (sc := defScope s_ascends) (by decide +kernel)) (fun _ _ _ _ _ => (pg_tup (by rfl) (pgs_cons (pg_name (i := 1) sc_ascends.nd rfl (Or.inl rfl)) (pgs_cons (pg_name (i := 2) sc_ascends.nd rfl (Or.inl rfl)) pgs_nil)))) (fun _ _ _ _ _ => pts_nil) (fun _ _ _ _ _ => (pe_cmpR op_lt (pv 1) (pv 2) (nomark _)))) pa_nil)))), ?_⟩
    obtain ⟨a, rfl, ha⟩ := Dt.nats_at' hd
    have sq : SqL K H a (natV l) := .inl (.inl ha)
    refine ⟨_, rfl, _, rfl, 1, rfl, a, _, rfl, sq, fun p hp => ?_⟩
    have s1 := same_new' (o := .lst (cutV (natV l) (some 1) none)) hp
    have e1 : (upd H p (.lst (cutV (natV l) (some 1) none))) p = some (.lst (natV (l.drop 1))) := by
      rw [upd_same]
      cases l with
      | nil => rfl
      | cons y r => rw [show (1 : Int) = ((1 : Nat) : Int) from rfl, cutN_from _ (by show 1 ≤ r.length + 1; omega)]
    generalize (upd H p (.lst (cutV (natV l) (some 1) none))) = H1 at s1 e1
    have sq1 : SqL K H1 a (natV l) := s1.seq sq
    have sq2 : SqL K H1 p (natV (l.drop 1)) := .inl (.inl e1)
    refine ⟨a, p, natV l, natV (l.drop 1), rfl, sq1, sq2, fun D hD => ?_⟩
    refine lc_it (walk_zip (n := l.length - 1) (by rw [natV_len, natV_len, List.length_drop]; omega)) (fun i H' => Same H1 H' ∧ H' D = some (.lst ((List.range i).map fun _ => V.bl true))) ⟨same_new' hD, upd_same⟩ (fun i H' _ e => ⟨e.1.seq sq1, e.1.seq sq2⟩) ?_ ?_
    · rintro i y H2 H3 hi ⟨s2, e2⟩ ⟨T', x1, x2, rfl, hT, rfl, f1, f2⟩
      obtain ⟨b, hb, rfl⟩ := nat_get f1
      obtain ⟨c, hc, rfl⟩ := nat_get f2
      rw [List.getElem?_drop] at hc
      obtain ⟨i1, hb⟩ := List.getElem?_eq_some_iff.mp hb
      obtain ⟨i2, hc⟩ := List.getElem?_eq_some_iff.mp hc
      have lt : b < c := by rw [← hb, ← hc]; exact List.pairwise_iff_getElem.mp pw i (1 + i) i1 i2 (by omega)
      refine ⟨T', [.int b, .int c], rfl, .inl (.inl upd_same), rfl, _, _, rfl, _, _, rfl, rfl, ?_⟩
      have nD : D ≠ T' := ne_of_none e2 hT
      refine ⟨rfl, yes_if ?_⟩
      refine ⟨_, rfl, _, rfl, _, _, rfl, rfl, ?_⟩
      dsimp only
      rw [decide_eq_true (show (b : Int) < (c : Int) by omega)]
      exact lcS (f := fun _ => V.bl true) hD (s2.trans (same_new' hT)) (by rw [upd_ne nD]; exact e2) (by omega)
    · rintro H2 ⟨s2, e2⟩
      refine ⟨D, (List.range (l.length - 1)).map fun _ => true, rfl, .inl (.inl ?_), ?_⟩
      · rw [e2, List.map_map]
        rfl
      · rw [all_true]
        exact q _ (s1.trans s2)

theorem mask_step {l : List Nat} {i x : Nat} (h : l[i]? = some x) : maskN (l.take (i + 1)) = maskN (l.take i) ||| 2 ^ x := by
  unfold maskN
  rw [List.take_add_one, h, List.foldl_append]
  rfl
theorem shl1 (x : Nat) : (1 : Int) * 2 ^ ((x : Int)).toNat = ((2 ^ x : Nat) : Int) := by
  rw [Int.toNat_natCast, Int.one_mul, Int.natCast_pow]
  rfl
def spMask : Sp := fun vs H Q _ => ∃ (x : V) (l : List Nat), vs = [x] ∧ Dt H x (lotD l) ∧ Few l ∧ Q (.int (maskN l : Nat)) H
theorem ok_mask_of (T : Tx K mg) : FnG P w K mg base CX0 1 T.a_mask_of T.d_mask_of ["stands"] spMask := by
  refine bodyG0 T.F_mask_of sc_mask_of (fun vs H Q E h => ?_) (fun cdv A outer s H vs Q E gd hr h => ?_)
  · obtain ⟨x, l, rfl, _⟩ := h; rfl
  · obtain ⟨x, l, rfl, hd, few, q⟩ := h
    refine ⟨_, (pss_cons (ps_set (i := 1) sc_mask_of.nd rfl (Or.inl rfl) pe_int)
      (pss_cons (ps_for PassesOwn.never rfl (pi_list (pv 0)) (pg_name (i := 2) sc_mask_of.nd rfl (Or.inl rfl)) (pss_one (ps_aug (i := 1) sc_mask_of.nd rfl (Or.inl rfl) (pe_op op_shlW pe_int (pv 2)) iop_or)))
      (pss_one (ps_ret (pv 1))))), ?_⟩
    obtain ⟨a, rfl, ha⟩ := Dt.nats_at' hd
    have sq : SqL K H a (natV l) := .inl (.inl ha)
    refine ⟨_, rfl, a, rfl, ⟨_, sq⟩, ?_⟩
    refine for_list (K := K) (a := a) (xs := natV l) (fun i σ H' => H' = H ∧ ∃ z : Option V, σ = [some (.ref a), some (.int (maskN (l.take i) : Nat)), z]) ⟨rfl, none, rfl⟩ (fun i σ H' _ e => by rw [e.1]; exact sq) ?_ ?_
    · rintro i x σ H' hi ⟨rfl, z, rfl⟩
      obtain ⟨b, hb, rfl⟩ := nat_get hi
      have lt := few.2 b (List.mem_of_getElem? hb)
      refine ⟨_, rfl, _, rfl, _, _, rfl, rfl, (by exact shl_ok (n := 1) (by decide) (by omega)), _, _, rfl, rfl, rfl, some (.int (b : Int)), ?_⟩
      rw [shl1]
      show [some (V.ref a), some (V.int (Builtin.bitOr (maskN (l.take i) : Nat) ((2 ^ b : Nat) : Int))), some (V.int (b : Int))] = _
      rw [bor_nat, ← mask_step hb]
    · rintro σ H' ⟨rfl, z, rfl⟩
      rw [natV_len, List.take_length]
      exact ⟨_, rfl, q⟩

theorem bits_len_eq {n k : Nat} (h : n < 2 ^ k) : bitsN (binL n).reverse.length n = bitsN k n := by
  have h1 := bits_more (n := n) (k := (binL n).reverse.length) (max k (binL n).reverse.length) (by omega) (revB_high n)
  have h2 := bits_more (n := n) (k := k) (max k (binL n).reverse.length) (by omega) (fun i hi => Nat.testBit_lt_two_pow (Nat.lt_of_lt_of_le h (Nat.pow_le_pow_right (by decide) hi)))
  rw [← h1, h2]
theorem one_fig {n i c : Nat} (h : c = figB n i) : decide (V.str ⟨#[c]⟩ = V.str "1") = n.testBit i := by
  subst h
  unfold figB
  cases n.testBit i <;> decide
theorem bits_step (k n : Nat) : bitsN (k + 1) n = bitsN k n ++ (if n.testBit k = true then [k] else []) := by
  unfold bitsN
  rw [List.range_succ, List.filter_append]
  congr 1
  cases h : n.testBit k with
  | true => rw [List.filter_cons_of_pos h]; rfl
  | false => rw [List.filter_cons_of_neg (by rw [h]; decide)]; rfl
def spStands : Sp := fun vs H Q _ => ∃ n k : Nat, vs = [.int n] ∧ n < 2 ^ k ∧ k ≤ 500 ∧ ∀ (p : Addr) (H' : Hp), Same H H' → H p = none → H' p = some (.lst (natV (bitsN k n))) → Q (.ref p) H'
theorem ok_stands_of (T : Tx K mg) : FnG P w K mg base CX0 1 T.a_stands_of T.d_stands_of ["mask"] spStands := by
  refine bodyG0 T.F_stands_of sc_stands_of (fun vs H Q E h => ?_) (fun cdv A outer s H vs Q E gd hr h => ?_)
  · obtain ⟨n, k, rfl, _⟩ := h; rfl
  · obtain ⟨n, k, rfl, hk, k5, q⟩ := h
    refine ⟨_, (pss_one (ps_ret (pe_lc (own := [("stand", 1), ("figure", 2)]) (g := gTup K 2 (gCons (gName 1) (gCons (gName 2) gNil))) rfl sc_stands_of.nd (pi_enumS (by rfl) T.z_enumerate (pa_cons (pe_rev (pe_joined1 (pe_fmtB (pv 0) (pe_joined1 pe_str))) (po_some (pe_un un_neg pe_int))) pa_nil)) (blkOk_by (N := ["mask", "stand", "figure"]) (sc := defScope s_stands_of) (by decide +kernel)) (fun _ _ _ _ _ => (pg_tup (by rfl) (pgs_cons (pg_name (i := 1) sc_stands_of.nd rfl (Or.inl rfl)) (pgs_cons (pg_name (i := 2) sc_stands_of.nd rfl (Or.inl rfl)) pgs_nil)))) (fun _ _ _ _ _ => (pts_one (pt_cmpR op_eq (pv 2) pe_str (nomark _)))) (fun _ _ _ _ _ => (pv 1))))), ?_⟩
    have len := revB_len k n (Nat.lt_of_lt_of_le hk (Nat.pow_le_pow_right (by decide) (Nat.le_succ k)))
    have e0 := bits_len_eq hk
    have e1 : (revT (binT n)).cps = ((List.range (binL n).reverse.length).map (figB n)).toArray := by
      rw [← rev_eq]
      rfl
    have sz : (revT (binT n)).cps.size = (binL n).reverse.length := by rw [e1]; simp
    have szb : (binT n).length ≤ sizeLine := by
      show (binL n).toArray.size ≤ sizeLine
      rw [List.size_toArray, sizeLine_eq]
      rw [List.length_reverse] at len
      omega
    refine ⟨_, rfl, n, rfl, szb, _, rfl, _, rfl, _, rfl, rfl, szb, _, rfl, fun D hD => ?_⟩
    refine lc_it walk_enumS (fun i H' => Same H H' ∧ H' D = some (.lst (natV (bitsN i n)))) ⟨same_new' hD, upd_same⟩ (fun i H' _ e => trivial) ?_ ?_
    · rintro i x H2 H3 hi ⟨s2, e2⟩ ⟨T', c, hc, rfl, hT, rfl⟩
      have hc : c = figB n i := by
        rw [e1] at hc
        rw [sz] at hi
        rw [List.getElem?_toArray, List.getElem?_map, List.getElem?_range hi] at hc
        exact (Option.some.inj hc).symm
      refine ⟨T', [.int i, .str ⟨#[c]⟩], rfl, .inl (.inl upd_same), rfl, _, _, rfl, _, _, rfl, rfl, ?_⟩
      have nD : D ≠ T' := ne_of_none e2 hT
      have s3 := s2.trans (same_new' (o := .tup [.int i, .str ⟨#[c]⟩]) hT)
      have e3 : (upd H2 T' (.tup [.int i, .str ⟨#[c]⟩])) D = some (.lst (natV (bitsN i n))) := by rw [upd_ne nD]; exact e2
      revert s3 e3
      generalize (upd H2 T' (.tup [.int i, .str ⟨#[c]⟩])) = H3
      intro s3 e3
      refine ⟨rfl, _, rfl, rfl, _, rfl, ?_⟩
      rw [one_fig hc]
      have bs := bits_step i n
      cases hb : n.testBit i with
      | true =>
        rw [hb, if_pos rfl] at bs
        have lb := bits_len i n
        refine iteT ⟨_, rfl, _, e3, by rw [natV_len]; exact small1000 (by omega), fun g o hg => ?_, ?_⟩
        · rw [upd_ne (ne_of_none hg hD)]
          exact s3 g o hg
        · rw [upd_same, bs, natV_snoc']
      | false =>
        rw [hb, if_neg Bool.false_ne_true, List.append_nil] at bs
        exact iteF ⟨s3, by rw [bs]; exact e3⟩
    · rintro H2 ⟨s2, e2⟩
      rw [sz, e0] at e2
      exact q D H2 s2 hD e2

theorem cnt_nat {x m : Nat} (h : x ≤ m) : cnt (.int (x : Int)) (m : Int) = true := by
  show (decide (0 ≤ (x : Int)) && decide ((x : Int) ≤ (m : Int))) = true
  rw [decide_eq_true (show 0 ≤ (x : Int) by omega), decide_eq_true (show (x : Int) ≤ (m : Int) by omega)]
  rfl
def spLot : Sp := fun vs H Q _ => ∃ (x : V) (l : List Nat) (n : Nat), vs = [x, .int n] ∧ Dt H x (lotD l) ∧ (∀ y ∈ l, y < n) ∧ l.Pairwise (· < ·) ∧ Few l ∧ ∀ H', Same H H' → Q (.bl true) H'
theorem ok_is_lot (T : Tx K mg) : FnG P w K mg base CX0 3 T.a_is_lot T.d_is_lot ["value", "many"] spLot := by
  have G_is_count_to := ok_is_count_to (P := P) (w := w) (base := base) T
  have G_ascends := ok_ascends (P := P) (w := w) (base := base) T
  refine bodyG0 T.F_is_lot sc_is_lot (fun vs H Q E h => ?_) (fun cdv A outer s H vs Q E gd hr h => ?_)
  · obtain ⟨x, l, n, rfl, _⟩ := h; rfl
  · obtain ⟨x, l, n, rfl, hd, lt, pw, few, q⟩ := h
    refine ⟨_, (pss_one (ps_ret (pe_and (pe_callB call_isD (by rfl) T.z_isinstance (by decide +kernel) (pa_cons (pv 0) (pa_cons (pe_bltn (v := .ty "list") (by rfl) T.z_list (by decide +kernel) rfl) pa_nil))) (pe_and (pe_callB (cr_allK (K := K) rfl rfl) (by rfl) T.z_all (by decide +kernel) (pa_cons (pe_lc (own := [("number", 2)]) (g := gName 2) (tt := tYes) rfl sc_is_lot.nd (pi_list (pv 0)) (blkOk_by (N := ["value", "many", "number"]) (sc := defScope s_is_lot) (by decide +kernel)) (fun _ _ _ _ _ => (pg_name (i := 2) sc_is_lot.nd rfl (Or.inl rfl))) (fun _ _ _ _ _ => pts_nil) (fun _ _ _ _ _ => (pe_g G_is_count_to gd (hr.mono (by decide)) (by rfl) T.g_is_count_to T.F_is_count_to.kp T.b_is_count_to .nil pass0 (pa_cons (pv 2) (pa_cons (pe_op op_sub (pv 1) pe_int) pa_nil))))) pa_nil)) (pe_one (pe_g G_ascends gd (hr.mono (by decide)) (by rfl) T.g_ascends T.F_ascends.kp T.b_ascends .nil pass0 (pa_cons (pv 0) pa_nil))))))), ?_⟩
    have hl := few.1
    refine ⟨_, rfl, _, _, _, _, rfl, hd, kit_list _, _, rfl, iteT ?_⟩
    have hd0 := hd
    obtain ⟨a, rfl, ha⟩ := Dt.nats_at' hd
    have sq : SqL K H a (natV l) := .inl (.inl ha)
    refine ⟨_, rfl, a, rfl, ⟨_, sq⟩, fun D hD => ?_⟩
    refine lc_list (K := K) (a := a) (xs := natV l) (fun i H' => Same H H' ∧ H' D = some (.lst ((List.range i).map fun _ => V.bl true))) ⟨same_new' hD, upd_same⟩ (fun i H' _ e => e.1.seq sq) ?_ ?_
    · rintro i x H' hi ⟨s1, e1⟩
      obtain ⟨b, hb, rfl⟩ := nat_get hi
      have il : i < l.length := (List.getElem?_eq_some_iff.mp hb).1
      have bl := lt b (List.mem_of_getElem? hb)
      refine ⟨rfl, yes_if ?_⟩
      refine ⟨_, rfl, _, rfl, _, _, rfl, rfl, _, .int (b : Int), _, rfl, .int _, ?_⟩
      dsimp only
      rw [show (n : Int) - 1 = ((n - 1 : Nat) : Int) by omega, cnt_nat (by omega)]
      exact lcS (f := fun _ => V.bl true) hD s1 e1 (by omega)
    · rintro H' ⟨s1, e1⟩
      refine ⟨D, (List.range (natV l).length).map fun _ => true, rfl, .inl (.inl ?_), ?_⟩
      · rw [e1, List.map_map]
        rfl
      · rw [all_true]
        exact ⟨_, rfl, iteT ⟨_, rfl, _, l, rfl, hd0.to s1, pw, by omega, fun H2 s2 => q H2 (s1.trans s2)⟩⟩

def spFewer : Sp := fun vs H Q _ => ∃ n k : Nat, vs = [.int n] ∧ n < 2 ^ k ∧ k ≤ 500 ∧ ∀ (p : Addr) (H' : Hp), Same H H' → H p = none → H' p = some (.lst (natV ((bitsN k n).map fun i => n - 2 ^ i))) → Q (.ref p) H'
theorem ok_one_fewer (T : Tx K mg) : FnG P w K mg base CX0 2 T.a_one_fewer T.d_one_fewer ["mask"] spFewer := by
  have G_stands_of := ok_stands_of (P := P) (w := w) (base := base) T
  refine bodyG0 T.F_one_fewer sc_one_fewer (fun vs H Q E h => ?_) (fun cdv A outer s H vs Q E gd hr h => ?_)
  · obtain ⟨n, k, rfl, _⟩ := h; rfl
  · obtain ⟨n, k, rfl, hk, k5, q⟩ := h
    refine ⟨_, (pss_one (ps_ret (pe_lc (own := [("number", 1)]) (g := gName 1) (tt := tYes) rfl sc_one_fewer.nd (pi_list (pe_g G_stands_of gd (hr.mono (by decide)) (by rfl) T.g_stands_of T.F_stands_of.kp T.b_stands_of .nil pass0 (pa_cons (pv 0) pa_nil))) (blkOk_by (N := ["mask", "number"]) (sc := defScope s_one_fewer) (by decide +kernel)) (fun _ _ _ _ _ => (pg_name (i := 1) sc_one_fewer.nd rfl (Or.inl rfl))) (fun _ _ _ _ _ => pts_nil) (fun _ _ _ _ _ => (pe_op op_sub (pv 0) (pe_op op_shlW pe_int (pv 1))))))), ?_⟩
    refine ⟨_, rfl, n, k, rfl, hk, k5, fun p H1 s1 np hp => ⟨p, rfl, ⟨_, .inl (.inl hp)⟩, fun D hD => ?_⟩⟩
    have lb := bits_len k n
    refine lc_list (K := K) (a := p) (xs := natV (bitsN k n)) (fun i H' => Same H1 H' ∧ H' D = some (.lst (natV (((bitsN k n).take i).map fun i => n - 2 ^ i)))) ⟨same_new' hD, upd_same⟩ (fun i H' _ e => .inl (.inl (e.1 _ _ hp))) ?_ ?_
    · rintro i x H' hi ⟨s2, e2⟩
      obtain ⟨b, hb, rfl⟩ := nat_get hi
      obtain ⟨b1, b2⟩ := mem_bits.mp (List.mem_of_getElem? hb)
      have le := (sub_bit b n b2).1
      refine ⟨rfl, yes_if ?_⟩
      refine ⟨_, rfl, _, rfl, _, _, rfl, rfl, (by exact shl_ok (n := 1) (by decide) (by omega)), _, _, rfl, rfl, ?_⟩
      dsimp only
      rw [shl1, show (n : Int) - ((2 ^ b : Nat) : Int) = ((n - 2 ^ b : Nat) : Int) by omega]
      refine ⟨_, e2, by rw [natV_len, List.length_map, List.length_take]; exact small1000 (by omega), fun g o hg => ?_, ?_⟩
      · rw [upd_ne (ne_of_none hg hD)]
        exact s2 g o hg
      · rw [upd_same, natV_snoc', List.take_add_one, hb, List.map_append]
        rfl
    · rintro H' ⟨s2, e2⟩
      rw [natV_len, List.take_length] at e2
      exact q D H' (s1.trans s2) (s1.free hD) e2

/-- the masks that least_masks tells -/
def leastF (n : Nat) (f : Nat → Bool) (m : Nat) : Bool := f m && !(bitsN n m).any fun i => f (m - 2 ^ i)
def spLeastM : Sp := fun vs H Q _ => ∃ (x : V) (n : Nat) (f : Nat → Bool), vs = [x] ∧ Dt H x (.list (((List.range (2 ^ n)).map f).map .bool)) ∧ n ≤ 8 ∧ ∀ (p : Addr) (H' : Hp), Same H H' → H p = none → H' p = some (.lst (natV ((List.range (2 ^ n)).filter (leastF n f)))) → Q (.ref p) H'
theorem pow8 {n : Nat} (h : n ≤ 8) : 2 ^ n ≤ 256 := Nat.pow_le_pow_right (by decide) h
theorem ok_least_masks (T : Tx K mg) : FnG P w K mg base CX0 3 T.a_least_masks T.d_least_masks ["marks"] spLeastM := by
  have G_one_fewer := ok_one_fewer (P := P) (w := w) (base := base) T
  refine bodyG0 T.F_least_masks sc_least_masks (fun vs H Q E h => ?_) (fun cdv A outer s H vs Q E gd hr h => ?_)
  · obtain ⟨x, n, f, rfl, _⟩ := h; rfl
  · obtain ⟨x, n, f, rfl, hd, n8, q⟩ := h
    refine ⟨_, (pss_one (ps_ret (pe_lc (own := [("mask", 1), ("mark", 2)]) (g := gTup K 2 (gCons (gName 1) (gCons (gName 2) gNil))) rfl sc_least_masks.nd (pi_enumK (K := K) rfl (by rfl) T.z_enumerate (pa_cons (pv 0) pa_nil)) (blkOk_by (N := ["marks", "mask", "mark", "fewer"]) (sc := defScope s_least_masks) (by decide +kernel)) (fun _ _ _ _ _ => (pg_tup (by rfl) (pgs_cons (pg_name (i := 1) sc_least_masks.nd rfl (Or.inl rfl)) (pgs_cons (pg_name (i := 2) sc_least_masks.nd rfl (Or.inl rfl)) pgs_nil)))) (fun _ _ _ _ _ => (pts_one (PW.pt (pw_and (pt_val (pv 2)) (pw_and1 (pt_not (pt_val (pe_callB (cr_anyK (K := K) rfl rfl) (by rfl) T.z_any (by decide +kernel) (pa_cons (pe_lc (own := [("fewer", 3)]) (g := gName 3) (tt := tYes) rfl sc_least_masks.nd (pi_listK (K := K) rfl (pe_g G_one_fewer gd (hr.mono (by decide)) (by rfl) T.g_one_fewer T.F_one_fewer.kp T.b_one_fewer .nil pass0 (pa_cons (pv 1) pa_nil))) (blkOk_by (by kernel_rfl)) (fun _ _ _ _ _ => (pg_name (i := 3) sc_least_masks.nd rfl (Or.inl rfl))) (fun _ _ _ _ _ => pts_nil) (fun _ _ _ _ _ => (pe_ix (ix_listK (K := K) rfl) (pv 0) (pv 3) (fun _ _ => rfl)))) pa_nil))))))))) (fun _ _ _ _ _ => (pv 1))))), ?_⟩
    obtain ⟨a, rfl, ha⟩ : ∃ a, x = .ref a ∧ H a = some (.lst (((List.range (2 ^ n)).map f).map .bl)) := by
      cases hd with
      | @lst a xs _ ha hs => exact ⟨a, rfl, by rw [ha, DtAll.bls_inv _ _ hs]⟩
    have sq : SqL K H a (((List.range (2 ^ n)).map f).map .bl) := .inl (.inl ha)
    have p8 := pow8 n8
    have len : (((List.range (2 ^ n)).map f).map V.bl).length = 2 ^ n := by rw [List.length_map, List.length_map, List.length_range]
    refine ⟨_, rfl, a, _, rfl, sq, fun D hD => ?_⟩
    refine lc_it walk_enum (fun i H' => Same H H' ∧ H' D = some (.lst (natV ((List.range i).filter (leastF n f))))) ⟨same_new' hD, upd_same⟩ (fun i H' _ e => e.1.seq sq) ?_ ?_
    · rintro m x H2 H3 hi ⟨s2, e2⟩ ⟨T', x1, x2, rfl, hT, rfl, f1, f2⟩
      cases f1
      rw [len] at hi
      have f2 : x2 = V.bl (f m) := by
        have f2 : (((List.range (2 ^ n)).map f).map V.bl)[m]? = some x2 := f2
        rw [List.getElem?_map, List.getElem?_map, List.getElem?_range hi] at f2
        exact (Option.some.inj f2).symm
      subst f2
      refine ⟨T', [.int m, .bl (f m)], rfl, .inl (.inl upd_same), rfl, _, _, rfl, _, _, rfl, rfl, ?_⟩
      have nD : D ≠ T' := ne_of_none e2 hT
      have s3 := s2.trans (same_new' (o := .tup [.int m, .bl (f m)]) hT)
      have e3 : (upd H2 T' (.tup [.int m, .bl (f m)])) D = some (.lst (natV ((List.range m).filter (leastF n f)))) := by rw [upd_ne nD]; exact e2
      revert s3 e3
      generalize (upd H2 T' (.tup [.int m, .bl (f m)])) = H3
      intro s3 e3
      have lm := List.length_filter_le (leastF n f) (List.range m)
      rw [List.length_range] at lm
      have st : (List.range (m + 1)).filter (leastF n f) = (List.range m).filter (leastF n f) ++ (if leastF n f m = true then [m] else []) := by
        rw [List.range_succ, List.filter_append]
        congr 1
        cases h : leastF n f m with
        | true => rw [List.filter_cons_of_pos h]; rfl
        | false => rw [List.filter_cons_of_neg (by rw [h]; decide)]; rfl
      refine ⟨rfl, _, rfl, _, rfl, ?_⟩
      cases hf : f m with
      | false =>
        rw [show leastF n f m = false by unfold leastF; rw [hf]; rfl, if_neg Bool.false_ne_true, List.append_nil] at st
        exact iteF ⟨s3, by rw [st]; exact e3⟩
      | true =>
        refine iteT ⟨_, rfl, m, n, rfl, hi, by omega, fun p H4 s4 np hp => ⟨p, rfl, ⟨_, .inl (.inl hp)⟩, fun D2 hD2 => ?_⟩⟩
        have lb := bits_len n m
        refine lc_list (K := K) (a := p) (xs := natV ((bitsN n m).map fun i => m - 2 ^ i)) (fun i H' => Same H4 H' ∧ H' D2 = some (.lst ((((bitsN n m).take i).map fun i => f (m - 2 ^ i)).map V.bl))) ⟨same_new' hD2, upd_same⟩ (fun i H' _ e => .inl (.inl (e.1 _ _ hp))) ?_ ?_
        · rintro i x H5 hx ⟨s5, e5⟩
          obtain ⟨b, hb, rfl⟩ := nat_get hx
          rw [List.getElem?_map] at hb
          obtain ⟨j, hj, rfl⟩ := Option.map_eq_some_iff.mp hb
          have b2 := (mem_bits.mp (List.mem_of_getElem? hj)).2
          have le := (sub_bit j m b2).1
          refine ⟨rfl, yes_if ?_⟩
          refine ⟨_, rfl, _, rfl, a, _, ((m - 2 ^ j : Nat) : Int), _, rfl, rfl, (s3.trans (s4.trans s5)).seq sq, atI_nat (v := V.bl (f (m - 2 ^ j))) ?_, ?_⟩
          · rw [List.getElem?_map, List.getElem?_map, List.getElem?_range (show m - 2 ^ j < 2 ^ n from Nat.lt_of_le_of_lt (Nat.sub_le _ _) hi)]
            rfl
          · refine ⟨_, e5, by rw [List.length_map, List.length_map, List.length_take]; exact small1000 (by omega), fun g o hg => ?_, ?_⟩
            · rw [upd_ne (ne_of_none hg hD2)]
              exact s5 g o hg
            · rw [upd_same, List.take_add_one, hj, List.map_append, List.map_append]
              rfl
        · rintro H5 ⟨s5, e5⟩
          rw [natV_len, List.length_map, List.take_length] at e5
          refine ⟨D2, _, rfl, .inl (.inl e5), _, rfl, ?_⟩
          have s6 := s3.trans (s4.trans s5)
          have e6 := s5 _ _ (s4 _ _ e3)
          have an : (((bitsN n m).map fun i => f (m - 2 ^ i)).any id) = (bitsN n m).any fun i => f (m - 2 ^ i) := by rw [List.any_map]; rfl
          rw [an]
          cases ha : (bitsN n m).any fun i => f (m - 2 ^ i) with
          | true =>
            rw [show leastF n f m = false by unfold leastF; rw [hf, ha]; rfl, if_neg Bool.false_ne_true, List.append_nil] at st
            exact iteF ⟨s6, by rw [st]; exact e6⟩
          | false =>
            rw [show leastF n f m = true by unfold leastF; rw [hf, ha]; rfl, if_pos rfl] at st
            refine iteT ⟨_, rfl, _, e6, by rw [natV_len]; exact small1000 (by omega), fun g o hg => ?_, ?_⟩
            · rw [upd_ne (ne_of_none hg hD)]
              exact s6 g o hg
            · rw [upd_same, st, natV_snoc']
    · rintro H2 ⟨s2, e2⟩
      rw [len] at e2
      exact q D H2 s2 hD e2

/-- lists of numbers below 2 ^ n, told by ms, in order: new lists at qs, in a new list at p -/
def Told (K : PySem.W.Frag) (H : Hp) (L : List (List Nat)) (p : Addr) (qs : List Addr) (H' : Hp) : Prop := Same H H' ∧ H p = none ∧ H' p = some (.lst (qs.map V.ref)) ∧ (∀ r ∈ qs, H r = none ∧ LotAt H' r) ∧ qs.map (dN H') = L
def spToldL (K : PySem.W.Frag) : Sp := fun vs H Q _ => ∃ (x : V) (n : Nat) (ms : List Nat), vs = [x] ∧ Dt H x (lotD ms) ∧ n ≤ 8 ∧ (∀ m ∈ ms, m < 2 ^ n) ∧ ms.length ≤ 1000 ∧ ∀ (L : List (List Nat)) (p : Addr) (qs : List Addr) (H' : Hp), L.Perm (ms.map (bitsN n)) → L.Pairwise (fun x y => lexN y x = false) → Told K H L p qs H' → Q (.ref p) H'
theorem ok_lots_told (T : Tx K mg) : FnG P w K mg base CX0 2 T.a_lots_told T.d_lots_told ["masks"] (spToldL K) := by
  have G_stands_of := ok_stands_of (P := P) (w := w) (base := base) T
  refine bodyG0 T.F_lots_told sc_lots_told (fun vs H Q E h => ?_) (fun cdv A outer s H vs Q E gd hr h => ?_)
  · obtain ⟨x, n, ms, rfl, _⟩ := h; rfl
  · obtain ⟨x, n, ms, rfl, hd, n8, lt, hl, q⟩ := h
    refine ⟨_, (pss_one (ps_ret (pe_callB (cr_sortedLK (K := K) rfl hr.units) (by rfl) T.z_sorted (by decide +kernel) (pa_cons (pe_lc (own := [("mask", 1)]) (g := gName 1) (tt := tYes) rfl sc_lots_told.nd (pi_list (pv 0)) (blkOk_by (N := ["masks", "mask"]) (sc := defScope s_lots_told) (by decide +kernel)) (fun _ _ _ _ _ => (pg_name (i := 1) sc_lots_told.nd rfl (Or.inl rfl))) (fun _ _ _ _ _ => pts_nil) (fun _ _ _ _ _ => (pe_g G_stands_of gd (hr.mono (by decide)) (by rfl) T.g_stands_of T.F_stands_of.kp T.b_stands_of .nil pass0 (pa_cons (pv 1) pa_nil)))) pa_nil)))), ?_⟩
    obtain ⟨a, rfl, ha⟩ := Dt.nats_at' hd
    have sq : SqL K H a (natV ms) := .inl (.inl ha)
    refine ⟨_, rfl, a, rfl, ⟨_, sq⟩, fun D hD => ?_⟩
    refine lc_list (K := K) (a := a) (xs := natV ms) (fun i H' => Same H H' ∧ ∃ ps : List Addr, H' D = some (.lst (ps.map V.ref)) ∧ ps.length = i ∧ (∀ r ∈ ps, H r = none ∧ r ≠ D ∧ LotAt H' r) ∧ ps.map (dN H') = (ms.take i).map (bitsN n)) ⟨same_new' hD, [], upd_same, rfl, (fun r hr => nomatch hr), rfl⟩ (fun i H' _ e => e.1.seq sq) ?_ ?_
    · rintro i x H1 hi ⟨s1, ps, e1, pl, pk, pe⟩
      obtain ⟨b, hb, rfl⟩ := nat_get hi
      have bl := lt b (List.mem_of_getElem? hb)
      have il : i < ms.length := (List.getElem?_eq_some_iff.mp hb).1
      refine ⟨rfl, yes_if ?_⟩
      refine ⟨_, rfl, b, n, rfl, bl, by omega, fun p H2 s2 np hp => ?_⟩
      have nD : D ≠ p := ne_of_none e1 np
      have kp : ∀ {r : Addr}, r ≠ D → LotAt H2 r → LotAt (upd H2 D (.lst (ps.map V.ref ++ [.ref p]))) r ∧ dN (upd H2 D (.lst (ps.map V.ref ++ [.ref p]))) r = dN H2 r := fun {r} hr hL => by
        have e : (upd H2 D (.lst (ps.map V.ref ++ [.ref p]))) r = some (.lst (natV (dN H2 r))) := by rw [upd_ne hr]; exact hL
        exact ⟨.of e, dN_of e⟩
      refine ⟨_, s2 _ _ e1, by rw [List.length_map, pl]; exact small1000 (by omega), fun g o hg => ?_, ps ++ [p], by rw [upd_same, List.map_append]; rfl, by rw [List.length_append, pl]; rfl, fun r hr => ?_, ?_⟩
      · rw [upd_ne (ne_of_none hg hD)]
        exact s2 _ _ (s1 g o hg)
      · rcases List.mem_append.mp hr with z | z
        · obtain ⟨k1, k2, k3⟩ := pk r z
          exact ⟨k1, k2, (kp k2 (k3.to s2)).1⟩
        · rw [List.mem_singleton.mp z]
          exact ⟨s1.free np, nD.symm, (kp nD.symm (.of hp)).1⟩
      · rw [List.map_append, List.take_add_one, hb, List.map_append, ← pe]
        congr 1
        · refine List.map_congr_left fun r hr => ?_
          obtain ⟨k1, k2, k3⟩ := pk r hr
          rw [(kp k2 (k3.to s2)).2, dN_same s2 k3]
        · show [dN _ p] = [bitsN n b]
          rw [(kp nD.symm (.of hp)).2, dN_of hp]
    · rintro H1 ⟨s1, ps, e1, pl, pk, pe⟩
      rw [natV_len, List.take_length] at pe
      refine ⟨D, ps, rfl, .inl (.inl e1), fun r hr => (pk r hr).2.2, fun qs p pq pw hp => ?_⟩
      have s2 := same_new' (o := .lst (qs.map V.ref)) hp
      have ee : qs.map (dN (upd H1 p (.lst (qs.map V.ref)))) = qs.map (dN H1) := lots_same s2 fun r hr => (pk r (pq.mem_iff.mp hr)).2.2
      refine q (qs.map (dN H1)) p qs _ (by rw [← pe]; exact pq.map _) pw ⟨s1.trans s2, s1.free hp, upd_same, fun r hr => ?_, ee⟩
      obtain ⟨k1, k2, k3⟩ := pk r (pq.mem_iff.mp hr)
      exact ⟨k1, k3.to s2⟩

end

end K63

set_option Elab.async false
set_option linter.all false
set_option maxRecDepth 100000
set_option maxHeartbeats 4000000
namespace K63
open PySem PySem.Spec PyProof.Rows L2 Hw
section
variable {P : Program} {w : World} {K : PySem.W.Frag} {mg : Str → Option Value} {base : Heap}

def hitF (ms : List Nat) (m : Nat) : Bool := ms.all fun c => decide (0 < m &&& c)
theorem hitF_iff {ms : List Nat} {m : Nat} : hitF ms m = true ↔ allHit ms m := by
  unfold hitF allHit
  rw [List.all_eq_true]
  exact ⟨fun h c hc => of_decide_eq_true (h c hc), fun h c hc => decide_eq_true (h c hc)⟩
theorem leastF_iff {n m : Nat} {ms : List Nat} (hm : m < 2 ^ n) : leastF n (hitF ms) m = true ↔ LeastM ms m := by
  unfold leastF LeastM
  rw [Bool.and_eq_true, hitF_iff, Bool.not_eq_true', List.any_eq_false]
  refine and_congr_right fun _ => ⟨fun h i hi hh => h i (mem_bits.mpr ⟨bit_lt hm hi, hi⟩) (hitF_iff.mpr hh), fun h i hi hh => h i (mem_bits.mp hi).2 (hitF_iff.mp hh)⟩
theorem isX_of {n : Nat} {ms : List Nat} {L : List (List Nat)} (p : L.Perm (((List.range (2 ^ n)).filter (leastF n (hitF ms))).map (bitsN n))) (h : L.Pairwise fun x y => lexN y x = false) : IsX n ms L := by
  refine ⟨.of h (p.nodup_iff.mpr (List.Nodup.sublist (List.Sublist.map _ List.filter_sublist) (all_lots_nodup n))), fun l => ?_⟩
  rw [p.mem_iff, List.mem_map]
  constructor
  · rintro ⟨m, h1, rfl⟩
    rw [List.mem_filter, List.mem_range] at h1
    exact ⟨m, h1.1, (leastF_iff h1.1).mp h1.2, rfl⟩
  · rintro ⟨m, h1, h2, rfl⟩
    exact ⟨m, List.mem_filter.mpr ⟨List.mem_range.mpr h1, (leastF_iff h1).mpr h2⟩, rfl⟩
def spCross (K : PySem.W.Frag) : Sp := fun vs H Q _ => ∃ (x : V) (n : Nat) (ms : List Nat), vs = [.int n, x] ∧ Dt H x (lotsD (ms.map (bitsN n))) ∧ n ≤ 8 ∧ (∀ m ∈ ms, m < 2 ^ n) ∧ ms.length ≤ 300 ∧
  ∀ (R : List (List Nat)) (p : Addr) (qs : List Addr) (H' : Hp), IsX n ms R → R.length ≤ 2 ^ n → Told K H R p qs H' → Q (.ref p) H'
theorem Told.of {K : PySem.W.Frag} {H H0 H' : Hp} {L : List (List Nat)} {p : Addr} {qs : List Addr} (e : Same H H0) (t : Told K H0 L p qs H') : Told K H L p qs H' :=
  ⟨e.trans t.1, e.free t.2.1, t.2.2.1, fun r hr => ⟨e.free (t.2.2.2.1 r hr).1, (t.2.2.2.1 r hr).2⟩, t.2.2.2.2⟩
theorem ok_crossing (T : Tx K mg) : FnG P w K mg base CX0 4 T.a_crossing T.d_crossing ["many", "lots"] (spCross K) := by
  have G_is_count_to := ok_is_count_to (P := P) (w := w) (base := base) T
  have G_is_lot := ok_is_lot (P := P) (w := w) (base := base) T
  have G_mask_of := ok_mask_of (P := P) (w := w) (base := base) T
  have G_least_masks := ok_least_masks (P := P) (w := w) (base := base) T
  have G_lots_told := ok_lots_told (P := P) (w := w) (base := base) T
  refine bodyG0 T.F_crossing sc_crossing (fun vs H Q E h => ?_) (fun cdv A outer s H vs Q E gd hr h => ?_)
  · obtain ⟨x, n, ms, rfl, _⟩ := h; rfl
  · obtain ⟨x, n, ms, rfl, hd, n8, lt, hl, q⟩ := h
    refine ⟨_, (pss_cons (ps_if (pt_not (pt_val (pe_g G_is_count_to gd (hr.mono (by decide)) (by rfl) T.g_is_count_to T.F_is_count_to.kp T.b_is_count_to .nil pass0 (pa_cons (pv 0) (pa_cons (C8.pe_gc (by rfl) T.c_MOST_CROSSED) pa_nil))))) (pss_one ps_never) pss_nil)
      (pss_cons (ps_if (PW.pt (pw_or (pt_not (pt_val (pe_callB call_isD (by rfl) T.z_isinstance (by decide +kernel) (pa_cons (pv 1) (pa_cons (pe_bltn (v := .ty "list") (by rfl) T.z_list (by decide +kernel) rfl) pa_nil))))) (pw_or1 (pt_not (pt_val (pe_callB (cr_allK (K := K) rfl rfl) (by rfl) T.z_all (by decide +kernel) (pa_cons (pe_lc (own := [("lot", 3)]) (g := gName 3) (tt := tYes) rfl sc_crossing.nd (pi_list (pv 1)) (blkOk_by (N := ["many", "lots", "masks", "lot", "mask", "other"]) (sc := defScope s_crossing) (by decide +kernel)) (fun _ _ _ _ _ => (pg_name (i := 3) sc_crossing.nd rfl (Or.inl rfl))) (fun _ _ _ _ _ => pts_nil) (fun _ _ _ _ _ => (pe_g G_is_lot gd (hr.mono (by decide)) (by rfl) T.g_is_lot T.F_is_lot.kp T.b_is_lot .nil pass0 (pa_cons (pv 3) (pa_cons (pv 0) pa_nil))))) pa_nil))))))) (pss_one ps_never) pss_nil)
      (pss_cons (ps_set (i := 2) sc_crossing.nd rfl (Or.inr rfl) (pe_lc (own := [("lot", 3)]) (g := gName 3) (tt := tYes) rfl sc_crossing.nd (pi_list (pv 1)) (blkOk_by (N := ["many", "lots", "masks", "lot", "mask", "other"]) (sc := defScope s_crossing) (by decide +kernel)) (fun _ _ _ _ _ => (pg_name (i := 3) sc_crossing.nd rfl (Or.inl rfl))) (fun _ _ _ _ _ => pts_nil) (fun _ _ _ _ _ => (pe_g G_mask_of gd (hr.mono (by decide)) (by rfl) T.g_mask_of T.F_mask_of.kp T.b_mask_of .nil pass0 (pa_cons (pv 3) pa_nil)))))
      (pss_one (ps_ret (pe_g G_lots_told gd (hr.mono (by decide)) (by rfl) T.g_lots_told T.F_lots_told.kp T.b_lots_told .nil pass0 (pa_cons (pe_g G_least_masks gd (hr.mono (by decide)) (by rfl) T.g_least_masks T.F_least_masks.kp T.b_least_masks .nil pass0 (pa_cons (pe_lc (own := [("mask", 4)]) (g := gName 4) (tt := tYes) rfl sc_crossing.nd (pi_range1 (by rfl) T.z_range (pa_cons (pe_op op_shlW pe_int (pv 0)) pa_nil)) (blkOk_by (N := ["many", "lots", "masks", "lot", "mask", "other"]) (sc := defScope s_crossing) (by decide +kernel)) (fun _ _ _ _ _ => (pg_name (i := 4) sc_crossing.nd rfl (Or.inr rfl))) (fun _ _ _ _ _ => pts_nil) (fun _ _ _ _ _ => (pe_callB (cr_allK (K := K) rfl rfl) (by rfl) T.z_all (by decide +kernel) (pa_cons (pe_lc (own := [("other", 5)]) (g := gName 5) (tt := tYes) rfl sc_crossing.nd (pi_listK (K := K) rfl (pv 2)) (blkOk_by (by kernel_rfl)) (fun _ _ _ _ _ => (pg_name (i := 5) sc_crossing.nd rfl (Or.inl rfl))) (fun _ _ _ _ _ => pts_nil) (fun _ _ _ _ _ => (pe_cmpR op_gt (pe_op op_and (pv 4) (pv 5)) pe_int (nomark _)))) pa_nil)))) pa_nil)) pa_nil))))))), ?_⟩
    refine ⟨_, rfl, _, _, _, rfl, .int (n : Int), ?_⟩
    rw [show cnt (.int (n : Int)) 8 = true from cnt_nat n8]
    refine ⟨true, rfl, iteF ?_⟩
    refine ⟨_, rfl, _, _, _, _, rfl, hd, kit_list _, _, rfl, ?_⟩
    refine iteF ?_
    obtain ⟨a, ps, rfl, ha, pe, pk⟩ := hd.lots
    have sq : SqL K H a (ps.map V.ref) := .inl (.inl ha)
    have pl : ps.length = ms.length := by have := congrArg List.length pe; rwa [List.length_map, List.length_map] at this
    have at_ : ∀ {i : Nat} {x : V}, (ps.map V.ref)[i]? = some x → ∃ (r : Addr) (m : Nat), x = .ref r ∧ ms[i]? = some m ∧ H r = some (.lst (natV (bitsN n m))) ∧ m < 2 ^ n := fun {i x} hi => by
      rw [List.getElem?_map] at hi
      obtain ⟨r, hr, rfl⟩ := Option.map_eq_some_iff.mp hi
      have e := congrArg (fun l => l[i]?) pe
      simp only [List.getElem?_map, hr, Option.map_some] at e
      obtain ⟨m, hm, e⟩ := Option.map_eq_some_iff.mp e.symm
      refine ⟨r, m, rfl, hm, ?_, lt m (List.mem_of_getElem? hm)⟩
      rw [e]
      exact pk r (List.mem_of_getElem? hr)
    refine ⟨_, rfl, a, rfl, ⟨_, sq⟩, fun D hD => ?_⟩
    refine lc_list (K := K) (a := a) (xs := ps.map V.ref) (fun i H' => Same H H' ∧ H' D = some (.lst ((List.range i).map fun _ => V.bl true))) ⟨same_new' hD, upd_same⟩ (fun i H' _ e => e.1.seq sq) ?_ ?_
    · rintro i x H1 hi ⟨s1, e1⟩
      obtain ⟨r, m, rfl, hm, er, hlt⟩ := at_ hi
      have il : i < ms.length := (List.getElem?_eq_some_iff.mp hm).1
      refine ⟨rfl, yes_if ?_⟩
      refine ⟨_, rfl, _, rfl, .ref r, bitsN n m, n, rfl, Dt.nats (s1 _ _ er), fun y hy => (mem_bits.mp hy).1, bits_asc n m, few_bits n8, fun H2 s2 => ?_⟩
      exact lcS (f := fun _ => V.bl true) hD (s1.trans s2) (s2 _ _ e1) (by omega)
    rintro H1 ⟨s1, e1⟩
    refine ⟨D, (List.range (ps.map V.ref).length).map fun _ => true, rfl, .inl (.inl (by rw [e1, List.map_map]; rfl)), ?_⟩
    rw [all_true]
    refine ⟨_, rfl, ?_⟩
    refine iteF ?_
    have sq1 := s1.seq sq
    have at1 : ∀ {i : Nat} {x : V}, (ps.map V.ref)[i]? = some x → ∃ (r : Addr) (m : Nat), x = .ref r ∧ ms[i]? = some m ∧ H1 r = some (.lst (natV (bitsN n m))) ∧ m < 2 ^ n := fun {i x} hi => by
      obtain ⟨r, m, h1, h2, h3, h4⟩ := at_ hi
      exact ⟨r, m, h1, h2, s1 _ _ h3, h4⟩
    clear at_ e1 hD
    refine ⟨_, rfl, a, rfl, ⟨_, sq1⟩, fun M hM => ?_⟩
    refine lc_list (K := K) (a := a) (xs := ps.map V.ref) (fun i H' => Same H1 H' ∧ H' M = some (.lst (natV (ms.take i)))) ⟨same_new' hM, upd_same⟩ (fun i H' _ e => e.1.seq sq1) ?_ ?_
    · rintro i x H2 hi ⟨s2, e2⟩
      obtain ⟨r, m, rfl, hm, er, hlt⟩ := at1 hi
      have il : i < ms.length := (List.getElem?_eq_some_iff.mp hm).1
      refine ⟨rfl, yes_if ?_⟩
      refine ⟨_, rfl, .ref r, bitsN n m, rfl, Dt.nats (s2 _ _ er), few_bits n8, ?_⟩
      rw [mask_bits hlt]
      refine ⟨_, e2, by rw [natV_len, List.length_take]; exact small1000 (by omega), fun g o hg => ?_, ?_⟩
      · rw [upd_ne (ne_of_none hg hM)]
        exact s2 g o hg
      · rw [upd_same, natV_snoc', List.take_add_one, hm]
        rfl
    rintro H2 ⟨s2, e2⟩
    rw [List.length_map, pl, List.take_length] at e2
    dsimp only [gName]
    have p8 := pow8 n8
    have sqM : SqL K H2 M (natV ms) := .inl (.inl e2)
    refine ⟨_, rfl, _, _, rfl, rfl, (by exact shl_ok (n := 1) (by decide) (by omega)), ?_⟩
    dsimp only
    rw [shl1]
    refine ⟨((2 ^ n : Nat) : Int), rfl, Int.le_trans (by decide) (Int.natCast_nonneg _), Int.lt_of_le_of_lt (Int.ofNat_le.mpr p8) (by decide), fun D hD => ?_⟩
    refine lc_range (lo := 0) (n := 2 ^ n) (fun i H' => Same H2 H' ∧ H' D = some (.lst (((List.range i).map (hitF ms)).map V.bl))) ⟨same_new' hD, upd_same⟩ ?_ ?_
    · rintro m H3 hm ⟨s3, e3⟩
      refine ⟨rfl, yes_if ?_⟩
      refine ⟨_, rfl, M, rfl, ⟨_, s3.seq sqM⟩, fun D2 hD2 => ?_⟩
      refine lc_list (K := K) (a := M) (xs := natV ms) (fun i H' => Same H3 H' ∧ H' D2 = some (.lst (((ms.take i).map fun c => decide (0 < m &&& c)).map V.bl))) ⟨same_new' hD2, upd_same⟩ (fun i H' _ e => e.1.seq (s3.seq sqM)) ?_ ?_
      · rintro i x H4 hi ⟨s4, e4⟩
        obtain ⟨c, hc, rfl⟩ := nat_get hi
        refine ⟨rfl, yes_if ?_⟩
        refine ⟨_, rfl, _, rfl, _, _, rfl, rfl, _, _, rfl, rfl, ?_⟩
        dsimp only
        have il : i < ms.length := (List.getElem?_eq_some_iff.mp hc).1
        have eb : decide ((0 : Int) < Builtin.bitAnd (0 + (m : Int)) (c : Int)) = decide (0 < m &&& c) := by
          rw [Int.zero_add, band_nat]
          exact decide_eq_decide.mpr (by omega)
        rw [eb]
        refine ⟨_, e4, by rw [List.length_map, List.length_map, List.length_take]; exact small1000 (by omega), fun g o hg => ?_, ?_⟩
        · rw [upd_ne (ne_of_none hg hD2)]
          exact s4 g o hg
        · rw [upd_same, List.take_add_one, hc, List.map_append, List.map_append]
          rfl
      · rintro H4 ⟨s4, e4⟩
        rw [natV_len, List.take_length] at e4
        refine ⟨D2, _, rfl, .inl (.inl e4), ?_⟩
        rw [show ((ms.map fun c => decide (0 < m &&& c)).all id) = hitF ms m by rw [List.all_map]; rfl]
        refine ⟨_, s4 _ _ e3, by rw [List.length_map, List.length_map, List.length_range]; exact small1000 (by omega), fun g o hg => ?_, ?_⟩
        · rw [upd_ne (ne_of_none hg hD)]
          exact s4 _ _ (s3 g o hg)
        · rw [upd_same, List.range_succ, List.map_append, List.map_append]
          rfl
    rintro H3 ⟨s3, e3⟩
    refine ⟨.ref D, n, hitF ms, rfl, .lst e3 (DtAll.bls _), n8, fun p H4 s4 np hp => ?_⟩
    have fl := List.length_filter_le (leastF n (hitF ms)) (List.range (2 ^ n))
    rw [List.length_range] at fl
    refine ⟨.ref p, n, _, rfl, Dt.nats hp, n8, fun m hm => ?_, by omega, fun L p2 qs H5 hL pw td => ?_⟩
    · exact List.mem_range.mp (List.mem_filter.mp hm).1
    · have ll := hL.length_eq
      rw [List.length_map] at ll
      exact q L p2 qs H5 (isX_of hL pw) (by omega) (td.of (s1.trans (s2.trans (s3.trans s4))))

def spLots (K : PySem.W.Frag) : Sp := fun vs H Q _ => ∃ n : Nat, vs = [.int n] ∧ n ≤ 8 ∧ ∀ (L : List (List Nat)) (p : Addr) (qs : List Addr) (H' : Hp), IsE n L → L.length = 2 ^ n → Told K H L p qs H' → Q (.ref p) H'
theorem ok_law_lots (T : Tx K mg) : FnG P w K mg base CX0 1 T.a_law_lots T.d_law_lots ["_law_many_told"] (spLots K) := by
  refine bodyG0 T.F_law_lots sc_law_lots (fun vs H Q E h => ?_) (fun cdv A outer s H vs Q E gd hr h => ?_)
  · obtain ⟨n, rfl, _⟩ := h; rfl
  · obtain ⟨n, rfl, n8, q⟩ := h
    refine ⟨_, (pss_cons (ps_set (i := 1) sc_law_lots.nd rfl (Or.inl rfl) (pe_lst (pa_cons (pe_lst pa_nil) pa_nil)))
      (pss_cons (ps_for PassesOwn.never rfl (pi_range1 (by rfl) T.z_range (pa_cons (pv 0) pa_nil)) (pg_name (i := 2) sc_law_lots.nd rfl (Or.inr rfl)) (pss_one (ps_set (i := 1) sc_law_lots.nd rfl (Or.inl rfl) (pe_op op_cat (pv 1) (pe_lc (own := [("_law_lot", 3)]) (g := gName 3) (tt := tYes) rfl sc_law_lots.nd (pi_list (pv 1)) (blkOk_by (N := ["_law_many_told", "_law_found", "_law_number", "_law_lot"]) (sc := defScope s_law_lots) (by decide +kernel)) (fun _ _ _ _ _ => (pg_name (i := 3) sc_law_lots.nd rfl (Or.inl rfl))) (fun _ _ _ _ _ => pts_nil) (fun _ _ _ _ _ => (pe_op op_cat (pv 3) (pe_lst (pa_cons (pv 2) pa_nil)))))))))
      (pss_one (ps_ret (pe_callB (cr_sortedLK (K := K) rfl hr.units) (by rfl) T.z_sorted (by decide +kernel) (pa_cons (pv 1) pa_nil)))))), ?_⟩
    have le1 : ∀ {k : Nat}, k ≤ 10000 → k ≤ sizeLine := fun h => by rw [sizeLine_eq]; omega
    refine ⟨Nat.zero_le _, fun p hp => ⟨le1 (by show 1 ≤ 10000; decide), fun D hD => ?_⟩⟩
    refine ⟨_, rfl, n, rfl, by omega, by omega, ?_⟩
    refine for_range (n := n) (fun m σ H' => ∃ (D : Addr) (ps : List Addr) (z2 z3 : Option V), σ = [some (.int n), some (.ref D), z2, z3] ∧ Same H H' ∧ H' D = some (.lst (ps.map V.ref)) ∧ (∀ r ∈ ps, H r = none ∧ LotAt H' r) ∧ ps.map (dN H') = (List.range (2 ^ m)).map (bitsN m)) ?_ ?_ ?_
    · have sD := same_new' (o := .lst [.ref p]) hD
      have ep : (upd (upd H p (.lst [])) D (.lst [.ref p])) p = some (.lst (natV [])) := sD _ _ upd_same
      refine ⟨D, [p], none, none, rfl, (same_new' hp).trans sD, upd_same, fun r hr => ?_, ?_⟩
      · rw [List.mem_singleton.mp hr]
        exact ⟨hp, .of ep⟩
      · show [dN _ p] = _
        rw [dN_of ep]
        rfl
    · rintro m σ H1 hm ⟨D, ps, z2, z3, rfl, s1, e1, pk0, pe⟩
      have pk : ∀ r ∈ ps, LotAt H1 r := fun r hr => (pk0 r hr).2
      have pl : ps.length = 2 ^ m := by have := congrArg List.length pe; rwa [List.length_map, List.length_map, List.length_range] at this
      have p8 : 2 ^ m ≤ 256 := Nat.pow_le_pow_right (by decide) (by omega : m ≤ 8)
      have sq : SqL K H1 D (ps.map V.ref) := .inl (.inl e1)
      refine ⟨_, rfl, _, rfl, D, rfl, ⟨_, sq⟩, fun F hF => ?_⟩
      refine lc_list (K := K) (a := D) (xs := ps.map V.ref) (fun i H' => Same H1 H' ∧ ∃ rs : List Addr, H' F = some (.lst (rs.map V.ref)) ∧ rs.length = i ∧ (∀ r ∈ rs, (H r = none ∧ r ≠ F) ∧ LotAt H' r) ∧ rs.map (dN H') = ((ps.take i).map (dN H1)).map (· ++ [m])) ⟨same_new' hF, [], upd_same, rfl, (fun r hr => nomatch hr), rfl⟩ (fun i H' _ e => e.1.seq sq) ?_ ?_
      · rintro i x H2 hi ⟨s2, rs, e2, rl, rk, re⟩
        rw [List.getElem?_map] at hi
        obtain ⟨r, hr, rfl⟩ := Option.map_eq_some_iff.mp hi
        have il : i < ps.length := (List.getElem?_eq_some_iff.mp hr).1
        have la := pk r (List.mem_of_getElem? hr)
        have lb : (dN H1 r).length ≤ 8 := by
          have h : dN H1 r ∈ ps.map (dN H1) := List.mem_map.mpr ⟨r, List.mem_of_getElem? hr, rfl⟩
          rw [pe] at h
          obtain ⟨k, _, hk⟩ := List.mem_map.mp h
          rw [← hk]
          have := bits_len m k
          omega
        refine ⟨rfl, yes_if ?_⟩
        refine ⟨_, rfl, _, rfl, le1 (by show 1 ≤ 10000; decide), fun u hu => ?_⟩
        have sU := same_new' (o := .lst [V.int (0 + (m : Int))]) hu
        have eu : (upd H2 u (.lst [V.int (0 + (m : Int))])) u = some (.lst [V.int (0 + (m : Int))]) := upd_same
        have e2' := sU _ _ e2
        have s2' := s2.trans sU
        have rk' : ∀ r ∈ rs, (H r = none ∧ r ≠ F) ∧ LotAt (upd H2 u (.lst [V.int (0 + (m : Int))])) r := fun r hr => ⟨(rk r hr).1, (rk r hr).2.to sU⟩
        have re' : rs.map (dN (upd H2 u (.lst [V.int (0 + (m : Int))]))) = ((ps.take i).map (dN H1)).map (· ++ [m]) := by rw [lots_same sU fun r hr => (rk r hr).2, re]
        revert eu e2' s2' rk' re'
        generalize (upd H2 u (.lst [V.int (0 + (m : Int))])) = H3
        intro eu e3 s3 rk3 re3
        refine ⟨r, u, _, _, rfl, rfl, s3 _ _ la, eu, le1 (by rw [natV_len]; show (dN H1 r).length + 1 ≤ 10000; omega), fun v hv => ?_⟩
        have nF : F ≠ v := ne_of_none e3 hv
        have ev : natV (dN H1 r) ++ [V.int (0 + (m : Int))] = natV (dN H1 r ++ [m]) := by rw [Int.zero_add, natV_snoc']
        rw [ev]
        have sV := same_new' (o := .lst (natV (dN H1 r ++ [m]))) hv
        have hv4 : (upd H3 v (.lst (natV (dN H1 r ++ [m])))) v = some (.lst (natV (dN H1 r ++ [m]))) := upd_same
        have e4 := sV _ _ e3
        have s4 := s3.trans sV
        have rk4 : ∀ r ∈ rs, (H r = none ∧ r ≠ F) ∧ LotAt _ r := fun r hr => ⟨(rk3 r hr).1, (rk3 r hr).2.to sV⟩
        have re4 := (lots_same sV fun r hr => (rk3 r hr).2).trans re3
        revert hv4 e4 s4 rk4 re4
        generalize (upd H3 v (.lst (natV (dN H1 r ++ [m])))) = H4
        intro hv4 e4 s4 rk4 re4
        have kp : ∀ {r : Addr} {l : List Nat}, r ≠ F → H4 r = some (.lst (natV l)) → (upd H4 F (.lst (rs.map V.ref ++ [.ref v]))) r = some (.lst (natV l)) := fun {r l} hr hl => by rw [upd_ne hr]; exact hl
        refine ⟨_, e4, by rw [List.length_map, rl]; exact small1000 (by omega), fun g o hg => ?_, rs ++ [v], by rw [upd_same, List.map_append]; rfl, by rw [List.length_append, rl]; rfl, fun r' hr' => ?_, ?_⟩
        · rw [upd_ne (ne_of_none hg hF)]
          exact s4 g o hg
        · rcases List.mem_append.mp hr' with z | z
          · exact ⟨(rk4 r' z).1, .of (kp (rk4 r' z).1.2 (rk4 r' z).2)⟩
          · rw [List.mem_singleton.mp z]
            exact ⟨⟨(s1.trans s3).free hv, nF.symm⟩, .of (kp nF.symm hv4)⟩
        · rw [List.map_append, List.take_add_one, hr, List.map_append, List.map_append, ← re4]
          congr 1
          · exact List.map_congr_left fun r' hr' => dN_of (kp (rk4 r' hr').1.2 (rk4 r' hr').2)
          · show [dN _ v] = [dN H1 r ++ [m]]
            rw [dN_of (kp nF.symm hv4)]
      · rintro H2 ⟨s2, rs, e2, rl, rk, re⟩
        rw [List.length_map, List.take_length] at re
        rw [List.length_map] at rl
        refine ⟨D, F, _, _, rfl, rfl, s2 _ _ e1, e2, le1 (by rw [List.length_map, List.length_map]; omega), fun G hG => ?_⟩
        have sG := same_new' (o := .lst (ps.map V.ref ++ rs.map V.ref)) hG
        have all : ∀ r ∈ ps ++ rs, LotAt H2 r := fun r hr => (List.mem_append.mp hr).elim (fun z => (pk r z).to s2) fun z => (rk r z).2
        refine ⟨G, ps ++ rs, _, _, rfl, s1.trans (s2.trans sG), by rw [upd_same, List.map_append], fun r hr => ⟨(List.mem_append.mp hr).elim (fun z => (pk0 r z).1) (fun z => (rk r z).1.1), (all r hr).to sG⟩, ?_⟩
        rw [lots_same sG all, List.map_append, lots_same s2 pk, re, pe]
        exact lots_more m
    · rintro σ H1 ⟨D, ps, z2, z3, rfl, s1, e1, pk, pe⟩
      refine ⟨_, rfl, D, ps, rfl, .inl (.inl e1), fun r hr => (pk r hr).2, fun qs p pq pw hp => ?_⟩
      have s2 := same_new' (o := .lst (qs.map V.ref)) hp
      have qk : ∀ r ∈ qs, H r = none ∧ LotAt H1 r := fun r hr => pk r (pq.mem_iff.mp hr)
      have pm : (qs.map (dN H1)).Perm ((List.range (2 ^ n)).map (bitsN n)) := by rw [← pe]; exact pq.map _
      exact q (qs.map (dN H1)) p qs _ (.of pm pw) (by have := pm.length_eq; rwa [List.length_map (f := bitsN n), List.length_range] at this) ⟨s1.trans s2, s1.free hp, upd_same, fun r hr => ⟨(qk r hr).1, (qk r hr).2.to s2⟩, lots_same s2 fun r hr => (qk r hr).2⟩

theorem in_nats (x : Nat) (l : List Nat) : inV (.int (x : Int)) (natV l) = l.contains x := by
  unfold inV
  rw [List.any_map]
  induction l with
  | nil => rfl
  | cons y r ih =>
    rw [List.any_cons, List.contains_cons, ih]
    congr 1
    show eqV (.int (y : Int)) (.int (x : Int)) = _
    unfold eqV
    by_cases h : x = y
    · subst h; simp
    · have e : (x == y) = false := by simpa using h
      rw [e]
      simp
      omega
theorem flat_nats (l : List Nat) : (natV l).all flatV = true := by
  rw [List.all_map, List.all_eq_true]
  intro x _
  rfl
theorem nils {l : List Nat} {p : Nat → Bool} (h : ∀ x ∈ l, x < 1000) : ∀ d ∈ (l.filter p).map fun x : Nat => PyData.int (x : Int), Nice d := fun d hd => by
  obtain ⟨x, hx, rfl⟩ := List.mem_map.mp hd
  exact nat_nice (by have := h x (List.mem_filter.mp hx).1; omega)
def spIn : Sp := fun vs H Q _ => ∃ (x y : V) (a b : List Nat), vs = [x, y] ∧ Dt H x (lotD a) ∧ Dt H y (lotD b) ∧ Few a ∧ ∀ H', Same H H' → Q (.bl (inL a b)) H'
theorem ok_law_inside (T : Tx K mg) : FnG P w K mg base CX0 1 T.a_law_inside T.d_law_inside ["_law_low", "_law_high"] spIn := by
  refine bodyG0 T.F_law_inside sc_law_inside (fun vs H Q E h => ?_) (fun cdv A outer s H vs Q E gd hr h => ?_)
  · obtain ⟨x, y, a, b, rfl, _⟩ := h; rfl
  · obtain ⟨x, y, a, b, rfl, ha, hb, few, q⟩ := h
    refine ⟨_, (pss_one (ps_ret (pe_cmpR (op_eqT hr.units) (pe_lc (own := [("_law_number", 2)]) (g := gName 2) rfl sc_law_inside.nd (pi_list (pv 0)) (blkOk_by (N := ["_law_low", "_law_high", "_law_number"]) (sc := defScope s_law_inside) (by decide +kernel)) (fun _ _ _ _ _ => (pg_name (i := 2) sc_law_inside.nd rfl (Or.inl rfl))) (fun _ _ _ _ _ => (pts_one (pt_cmpR (op_notInK (K := K) rfl) (pv 2) (pv 1) (by rfl)))) (fun _ _ _ _ _ => (pv 2))) (pe_lst pa_nil) (nomark _)))), ?_⟩
    obtain ⟨c, rfl, hc⟩ := Dt.nats_at' ha
    obtain ⟨d, rfl, hd⟩ := Dt.nats_at' hb
    have sq : SqL K H c (natV a) := .inl (.inl hc)
    have fl := few.1
    refine ⟨_, rfl, c, rfl, ⟨_, sq⟩, fun D hD => ?_⟩
    refine lc_list (K := K) (a := c) (xs := natV a) (fun i H' => FltM (fun x : Nat => PyData.int (x : Int)) a (fun x => !b.contains x) H D i H') (FltM.start hD) (fun i H' _ e => e.1.seq sq) ?_ ?_
    · rintro i x H1 hi F
      obtain ⟨k, hk, rfl⟩ := nat_get hi
      have il : i < a.length := (List.getElem?_eq_some_iff.mp hk).1
      refine ⟨rfl, _, rfl, _, rfl, d, natV b, rfl, .inl (.inl (.inl (F.1 _ _ hd))), rfl, flat_nats b, _, rfl, ?_⟩
      show if (!inV (V.int (k : Int)) (natV b)) = true then _ else _
      rw [in_nats]
      cases hb2 : b.contains k with
      | true => exact iteF (F.skip hk (by rw [hb2]; rfl) (Same.refl _))
      | false => exact iteT ⟨_, rfl, F.keep hD hk (by rw [hb2]; rfl) (.int _) (by omega) (Same.refl _)⟩
    · rintro H1 F
      obtain ⟨s1, d1⟩ := F.done (natV_len a)
      refine ⟨Nat.zero_le _, fun E hE => eq_nilM d1 hE (nils few.2) ?_⟩
      have q := q _ (s1.trans (same_new' (o := .lst []) hE))
      rw [show inL a b = (((a.filter fun x => !b.contains x).map fun x : Nat => PyData.int (x : Int)).isEmpty) by rw [List.isEmpty_map, filter_none]; rfl] at q
      exact q

theorem lots_flt {L : List (List Nat)} {p : List Nat → Bool} (h : ∀ l ∈ L, Few l) : ∀ d ∈ (L.filter p).map lotD, Nice d := fun d hd => by
  obtain ⟨l, hl, rfl⟩ := List.mem_map.mp hd
  exact (h l (List.mem_filter.mp hl).1).nice
theorem lot_get {H : Hp} {ps : List Addr} {L : List (List Nat)} (pe : ps.map (dN H) = L) (pk : ∀ r ∈ ps, LotAt H r) {i : Nat} {x : V} (hi : (ps.map V.ref)[i]? = some x) : ∃ (r : Addr) (l : List Nat), x = .ref r ∧ L[i]? = some l ∧ H r = some (.lst (natV l)) ∧ i < ps.length := by
  rw [List.getElem?_map] at hi
  obtain ⟨r, hr, rfl⟩ := Option.map_eq_some_iff.mp hi
  refine ⟨r, dN H r, rfl, ?_, pk r (List.mem_of_getElem? hr), (List.getElem?_eq_some_iff.mp hr).1⟩
  rw [← pe, List.getElem?_map, hr]
  rfl
def spLeast : Sp := fun vs H Q _ => ∃ (x : V) (L : List (List Nat)), vs = [x] ∧ Dt H x (lotsD L) ∧ (∀ l ∈ L, Few l) ∧ L.length ≤ 500 ∧ ∀ (p : Addr) (H' : Hp), Same H H' → Dt H' (.ref p) (lotsD (leastL L)) → Q (.ref p) H'
theorem ok_law_least (T : Tx K mg) : FnG P w K mg base CX0 2 T.a_law_least T.d_law_least ["_law_lots_told"] spLeast := by
  have G_law_inside := ok_law_inside (P := P) (w := w) (base := base) T
  refine bodyG0 T.F_law_least sc_law_least (fun vs H Q E h => ?_) (fun cdv A outer s H vs Q E gd hr h => ?_)
  · obtain ⟨x, L, rfl, _⟩ := h; rfl
  · obtain ⟨x, L, rfl, hd, few, hl, q⟩ := h
    refine ⟨_, (pss_one (ps_ret (pe_lc (own := [("_law_lot", 1)]) (g := gName 1) rfl sc_law_least.nd (pi_list (pv 0)) (blkOk_by (N := ["_law_lots_told", "_law_lot", "_law_less"]) (sc := defScope s_law_least) (by decide +kernel)) (fun _ _ _ _ _ => (pg_name (i := 1) sc_law_least.nd rfl (Or.inr rfl))) (fun _ _ _ _ _ => (pts_one (pt_cmpR (op_eqT hr.units) (pe_lc (own := [("_law_less", 2)]) (g := gName 2) rfl sc_law_least.nd (pi_listK (K := K) rfl (pv 0)) (blkOk_by (by kernel_rfl)) (fun _ _ _ _ _ => (pg_name (i := 2) sc_law_least.nd rfl (Or.inl rfl))) (fun _ _ _ _ _ => (pts_one (PW.pt (pw_and (pt_cmpR (op_neT hr.units) (pv 2) (pv 1) (nomark _)) (pw_and1 (pt_val (pe_g G_law_inside gd (hr.mono (by decide)) (by rfl) T.g_law_inside T.F_law_inside.kp T.b_law_inside .nil pass0 (pa_cons (pv 2) (pa_cons (pv 1) pa_nil))))))))) (fun _ _ _ _ _ => (pv 2))) (pe_lst pa_nil) (nomark _)))) (fun _ _ _ _ _ => (pv 1))))), ?_⟩
    obtain ⟨a, ps, rfl, ha, pe, pk⟩ := hd.lots
    have sq : SqL K H a (ps.map V.ref) := .inl (.inl ha)
    have pl : ps.length = L.length := by rw [← pe, List.length_map]
    refine ⟨_, rfl, a, rfl, ⟨_, sq⟩, fun D hD => ?_⟩
    refine lc_list (K := K) (a := a) (xs := ps.map V.ref) (fun i H' => FltM lotD L (fun l => (L.filter fun x => x != l && inL x l).isEmpty) H D i H') (FltM.start hD) (fun i H' _ e => e.1.seq sq) ?_ ?_
    · rintro i x H1 hi F
      obtain ⟨r, l, rfl, hlI, hr, il⟩ := lot_get pe pk hi
      have fl := few l (List.mem_of_getElem? hlI)
      have s1 := F.1
      refine ⟨rfl, _, rfl, a, rfl, ⟨_, s1.seq sq⟩, fun D2 hD2 => ?_⟩
      refine lc_list (K := K) (a := a) (xs := ps.map V.ref) (fun j H' => FltM lotD L (fun x => x != l && inL x l) H1 D2 j H') (FltM.start hD2) (fun j H' _ e => e.1.seq (s1.seq sq)) ?_ ?_
      · rintro j x H2 hj F2
        obtain ⟨r2, l2, rfl, hl2, hr2, jl⟩ := lot_get pe pk hj
        have fl2 := few l2 (List.mem_of_getElem? hl2)
        have s2 := s1.trans F2.1
        have d1 : Dt H2 (.ref r) (lotD l) := Dt.nats (s2 _ _ hr)
        have d2 : Dt H2 (.ref r2) (lotD l2) := Dt.nats (s2 _ _ hr2)
        refine ⟨rfl, _, rfl, _, rfl, _, _, d2, d1, fl2.nice.shaped, fl.nice.shaped, _, rfl, ?_⟩
        rw [eqv_lots]
        cases he : (l2 == l) with
        | true => exact iteF (iteF (F2.skip hl2 (by show (!(l2 == l) && inL l2 l) = false; rw [he]; rfl) (Same.refl _)))
        | false =>
          refine iteT ⟨_, rfl, _, rfl, .ref r2, .ref r, l2, l, rfl, d2, d1, fl2, fun H3 s3 => ⟨_, rfl, ?_⟩⟩
          cases hb : inL l2 l with
          | true => exact iteT ⟨_, rfl, F2.keep hD2 hl2 (by show (!(l2 == l) && inL l2 l) = true; rw [he, hb]; rfl) (Dt.nats (s1 _ _ hr2)) (by omega) s3⟩
          | false => exact iteF (F2.skip hl2 (by show (!(l2 == l) && inL l2 l) = false; rw [he, hb]; rfl) s3)
      · rintro H2 F2
        obtain ⟨s2, dd⟩ := F2.done (by rw [List.length_map, pl])
        refine ⟨Nat.zero_le _, fun E hE => eq_nilM dd hE (lots_flt few) ⟨_, rfl, ?_⟩⟩
        rw [List.isEmpty_map]
        have s3 := s2.trans (same_new' (o := .lst []) hE)
        cases hb : (L.filter fun x => x != l && inL x l).isEmpty with
        | true => exact iteT ⟨_, rfl, F.keep hD hlI hb (Dt.nats hr) (by omega) s3⟩
        | false => exact iteF (F.skip hlI hb s3)
    · rintro H1 F
      obtain ⟨s1, dd⟩ := F.done (by rw [List.length_map, pl])
      exact q D H1 s1 dd

def spDue : Sp := fun vs H Q _ => ∃ (x : V) (n : Nat) (C : List (List Nat)), vs = [.int n, x] ∧ Dt H x (lotsD C) ∧ n ≤ 8 ∧ (∀ l ∈ C, Few l) ∧ C.length ≤ 500 ∧ ∀ (L : List (List Nat)) (p : Addr) (H' : Hp), IsE n L → L.length = 2 ^ n → Same H H' → Dt H' (.ref p) (lotsD (dueL L C)) → Q (.ref p) H'
theorem isE_few {n : Nat} {L : List (List Nat)} (e : IsE n L) (h : n ≤ 8) : ∀ l ∈ L, Few l := fun l hl => by
  obtain ⟨m, _, rfl⟩ := (e.mem l).mp hl
  exact few_bits h
theorem meet_flt (o l : List Nat) : (o.filter fun x => l.contains x).isEmpty = !meetL o l := by
  unfold meetL
  induction o with
  | nil => rfl
  | cons x r ih =>
    cases h : l.contains x with
    | true => rw [List.filter_cons_of_pos h, List.any_cons, h]; rfl
    | false => rw [List.filter_cons_of_neg (by rw [h]; decide), List.any_cons, h, ih]; rfl
theorem ok_law_due (T : Tx K mg) : FnG P w K mg base CX0 3 T.a_law_due T.d_law_due ["_law_many_told", "_law_lots_told"] spDue := by
  have G_law_lots := ok_law_lots (P := P) (w := w) (base := base) T
  have G_law_least := ok_law_least (P := P) (w := w) (base := base) T
  refine bodyG0 T.F_law_due sc_law_due (fun vs H Q E h => ?_) (fun cdv A outer s H vs Q E gd hr h => ?_)
  · obtain ⟨x, n, C, rfl, _⟩ := h; rfl
  · obtain ⟨x, n, C, rfl, hd, n8, few, hl, q⟩ := h
    refine ⟨_, (pss_cons (ps_set (i := 2) sc_law_due.nd rfl (Or.inl rfl) (pe_lst pa_nil))
      (pss_cons (ps_for PassesOwn.never rfl (pi_list (pe_g G_law_lots gd (hr.mono (by decide)) (by rfl) T.g_law_lots T.F_law_lots.kp T.b_law_lots .nil pass0 (pa_cons (pv 0) pa_nil))) (pg_name (i := 3) sc_law_due.nd rfl (Or.inr rfl)) (pss_one (ps_if (pt_cmpR (op_eqT hr.units) (pe_lc (own := [("_law_other_told", 4)]) (g := gName 4) rfl sc_law_due.nd (pi_list (pv 1)) (blkOk_by (N := ["_law_many_told", "_law_lots_told", "_law_found", "_law_lot", "_law_other_told", "_law_number"]) (sc := defScope s_law_due) (by decide +kernel)) (fun _ _ _ _ _ => (pg_name (i := 4) sc_law_due.nd rfl (Or.inl rfl))) (fun _ _ _ _ _ => (pts_one (pt_cmpR (op_eqT hr.units) (pe_lc (own := [("_law_number", 5)]) (g := gName 5) rfl sc_law_due.nd (pi_listK (K := K) rfl (pv 4)) (blkOk_by (by kernel_rfl)) (fun _ _ _ _ _ => (pg_name (i := 5) sc_law_due.nd rfl (Or.inl rfl))) (fun _ _ _ _ _ => (pts_one (pt_cmpR (op_inK (K := K) rfl) (pv 5) (pv 3) (by rfl)))) (fun _ _ _ _ _ => (pv 5))) (pe_lst pa_nil) (nomark _)))) (fun _ _ _ _ _ => (pv 4))) (pe_lst pa_nil) (nomark _)) (pss_one (ps_expr (pe_bm PySem.F.plainAttrs_list PySem.F.slot_list_append PySem.F.type_list_append mt_append (pv 2) (pa_cons (pv 3) pa_nil)))) pss_nil)))
      (pss_one (ps_ret (pe_g G_law_least gd (hr.mono (by decide)) (by rfl) T.g_law_least T.F_law_least.kp T.b_law_least .nil pass0 (pa_cons (pv 2) pa_nil)))))), ?_⟩
    obtain ⟨a, ps, rfl, ha, pe, pk⟩ := hd.lots
    have pl : ps.length = C.length := by rw [← pe, List.length_map]
    have p8 := pow8 n8
    refine ⟨Nat.zero_le _, fun D hD => ?_⟩
    have sD := same_new' (o := .lst []) hD
    have eD : (upd H D (.lst [])) D = some (.lst []) := upd_same
    refine ⟨_, rfl, n, rfl, n8, fun L p rs H1 eL lL td => ?_⟩
    obtain ⟨s1, np, hp, rk, re⟩ := td
    have rl : rs.length = L.length := by rw [← re, List.length_map]
    have fewL := isE_few eL n8
    have s01 := sD.trans s1
    have hne : D ≠ p := ne_of_none eD np
    have off1 : ∀ {b : Addr} {o : HO}, H b = some o → off D H1 b = some o := fun {b o} h => off_of (ne_of_none h hD) (s01 _ _ h)
    have offL : ∀ r ∈ rs, off D H1 r = some (.lst (natV (dN H1 r))) := fun r hr => off_of (fun z => by have := (rk r hr).1; rw [z, eD] at this; cases this) (rk r hr).2
    have offp : off D H1 p = some (.lst (rs.map V.ref)) := off_of hne.symm hp
    refine ⟨p, rfl, ⟨_, .inl (.inl hp)⟩, ?_⟩
    refine for_list (K := K) (a := p) (xs := rs.map V.ref) (fun i σ H' => (∃ z3 z4 z5 : Option V, σ = [some (.int n), some (.ref a), some (.ref D), z3, z4, z5]) ∧ Same (off D H1) (off D H') ∧ ∃ vs, H' D = some (.lst vs) ∧ DtAll (off D H1) vs (((L.take i).filter fun l => C.all fun o => meetL o l).map lotD) ∧ vs.length ≤ i) ⟨⟨none, none, none, rfl⟩, Same.refl _, [], s1 _ _ eD, .nil, Nat.le_refl _⟩ (fun i σ H' _ e => .inl (.inl (off_at (e.2.1 _ _ offp)).2)) ?_ ?_
    · rintro i x σ H2 hi ⟨⟨z3, z4, z5, rfl⟩, s2, vs, e2, dv, lv⟩
      rw [List.getElem?_map] at hi
      obtain ⟨r, hr, rfl⟩ := Option.map_eq_some_iff.mp hi
      have hl2 : L[i]? = some (dN H1 r) := by rw [← re, List.getElem?_map, hr]; rfl
      have il : i < rs.length := (List.getElem?_eq_some_iff.mp hr).1
      have or := offL r (List.mem_of_getElem? hr)
      generalize dN H1 r = l at hl2 or
      have fl := fewL l (List.mem_of_getElem? hl2)
      have hr2 : H2 r = some (.lst (natV l)) := (off_at (s2 _ _ or)).2
      have on2 : ∀ {b : Addr} {o : HO}, H b = some o → H2 b = some o := fun {b o} h => (off_at (s2 _ _ (off1 h))).2
      have sq2 : SqL K H2 a (ps.map V.ref) := .inl (.inl (on2 ha))
      refine ⟨_, rfl, a, rfl, ⟨_, sq2⟩, fun F hF => ?_⟩
      have pk2 : ∀ r ∈ ps, LotAt H2 r := fun r hr => .of (on2 (pk r hr))
      have pe2 : ps.map (dN H2) = C := by
        rw [← pe]
        exact List.map_congr_left fun r hr => dN_of (on2 (pk r hr))
      refine lc_list (K := K) (a := a) (xs := ps.map V.ref) (fun j H' => FltM lotD C (fun o => !meetL o l) H2 F j H') (FltM.start hF) (fun j H' _ e => e.1.seq sq2) ?_ ?_
      · rintro j x H3 hj F3
        obtain ⟨r3, o, rfl, ho, hr3, jl⟩ := lot_get pe2 pk2 hj
        have fo := few o (List.mem_of_getElem? ho)
        have fo1 := fo.1
        have s3 := F3.1
        have sq3 : SqL K H3 r3 (natV o) := .inl (.inl (s3 _ _ hr3))
        refine ⟨rfl, _, rfl, r3, rfl, ⟨_, sq3⟩, fun G hG => ?_⟩
        refine lc_list (K := K) (a := r3) (xs := natV o) (fun k H' => FltM (fun x : Nat => PyData.int (x : Int)) o (fun x => l.contains x) H3 G k H') (FltM.start hG) (fun k H' _ e => e.1.seq sq3) ?_ ?_
        · rintro k x H4 hk F4
          obtain ⟨y, hy, rfl⟩ := nat_get hk
          have kl : k < o.length := (List.getElem?_eq_some_iff.mp hy).1
          refine ⟨rfl, _, rfl, _, rfl, r, natV l, rfl, .inl (.inl (.inl (F4.1 _ _ (s3 _ _ hr2)))), rfl, flat_nats l, _, rfl, ?_⟩
          show if (inV (V.int (y : Int)) (natV l)) = true then _ else _
          rw [in_nats]
          cases hb2 : l.contains y with
          | true => exact iteT ⟨_, rfl, F4.keep hG hy hb2 (.int _) (by omega) (Same.refl _)⟩
          | false => exact iteF (F4.skip hy hb2 (Same.refl _))
        · rintro H4 F4
          obtain ⟨s4, d4⟩ := F4.done (natV_len o)
          refine ⟨Nat.zero_le _, fun E hE => eq_nilM d4 hE (nils fo.2) ⟨_, rfl, ?_⟩⟩
          rw [List.isEmpty_map, meet_flt]
          have s5 := s4.trans (same_new' (o := .lst []) hE)
          cases hm : meetL o l with
          | true => exact iteF (F3.skip ho (by rw [hm]; rfl) s5)
          | false => exact iteT ⟨_, rfl, F3.keep hF ho (by rw [hm]; rfl) (Dt.nats hr3) (by omega) s5⟩
      · rintro H3 F3
        obtain ⟨s3, d3⟩ := F3.done (by rw [List.length_map, pl])
        refine ⟨Nat.zero_le _, fun E hE => eq_nilM d3 hE (lots_flt few) ⟨_, rfl, ?_⟩⟩
        rw [List.isEmpty_map, filter_none]
        have s4 := s3.trans (same_new' (o := .lst []) hE)
        have e4 := s4 _ _ e2
        have st : ((L.take (i + 1)).filter fun l => C.all fun o => meetL o l) = ((L.take i).filter fun l => C.all fun o => meetL o l) ++ (if (C.all fun o => meetL o l) = true then [l] else []) := by
          rw [List.take_add_one, hl2, List.filter_append]
          congr 1
          show List.filter _ [l] = _
          show (match (C.all fun o => meetL o l) with | true => [l] | false => []) = _
          cases (C.all fun o => meetL o l) <;> rfl
        cases hc : C.all fun o => meetL o l with
        | true =>
          rw [hc, if_pos rfl] at st
          refine iteT ⟨_, rfl, .inl ⟨rfl, _, .inl (.inl e4)⟩, _, rfl, D, vs, _, rfl, rfl, e4, (by rw [sizeLine_eq]; omega), ⟨_, _, _, rfl⟩, ?_, _, upd_same, ?_, by rw [List.length_append]; show vs.length + 1 ≤ i + 1; omega⟩
          · rw [off_upd]
            exact s2.trans (off_mono s4)
          · rw [st, List.map_append]
            exact dv.app (.cons (Dt.nats or) .nil)
        | false =>
          rw [hc, if_neg Bool.false_ne_true, List.append_nil] at st
          exact iteF ⟨⟨_, _, _, rfl⟩, s2.trans (off_mono s4), vs, e4, by rw [st]; exact dv, by omega⟩
    · rintro σ H2 ⟨⟨z3, z4, z5, rfl⟩, s2, vs, e2, dv, lv⟩
      rw [List.length_map, rl, List.take_length] at dv
      have fl2 := List.length_filter_le (fun l => C.all fun o => meetL o l) L
      refine ⟨_, rfl, .ref D, _, rfl, .lst e2 ((dv.to s2).to off_same), fun l hl => fewL l (List.mem_filter.mp hl).1, by omega, fun p2 H3 s3 d3 => q L p2 H3 eL lL (fun b o h => s3 _ _ (off_at (s2 _ _ (off1 h))).2) d3⟩

end

end K63

set_option Elab.async false
set_option linter.all false
set_option maxRecDepth 100000
set_option maxHeartbeats 4000000
namespace K63
open PySem PySem.Spec PyProof.Rows L2 Hw
section
variable {P : Program} {w : World} {K : PySem.W.Frag} {mg : Str → Option Value} {base : Heap}

theorem veq (x : Str) : decide (V.str x = V.str x) = true := decide_eq_true rfl
theorem Told.dt {K : PySem.W.Frag} {H H' : Hp} {L : List (List Nat)} {p : Addr} {qs : List Addr} (t : Told K H L p qs H') : Dt H' (.ref p) (lotsD L) := by
  obtain ⟨_, _, e, k, rfl⟩ := t
  exact Dt.of_lots e fun r hr => (k r hr).2
theorem Told.ne {K : PySem.W.Frag} {H H' : Hp} {L : List (List Nat)} {p : Addr} {qs : List Addr} (t : Told K H L p qs H') : ∀ r ∈ qs, r ≠ p := fun r hr z => by
  obtain ⟨_, _, e, k, _⟩ := t
  have h := (k r hr).2
  unfold LotAt at h
  rw [z, e] at h
  injection h with h
  injection h with h
  cases qs with
  | nil => cases hr
  | cons q qs =>
    cases hd : dN H' p with
    | nil => rw [hd] at h; cases h
    | cons y ys =>
      rw [hd] at h
      injection h with h1 h2
      cases h1
/-- each once, at its first place -/
def uniqI (C : List (List Nat)) (i : Nat) : Bool := !(C.take i).contains (C.getD i [])
def uniqL (C : List (List Nat)) : List (List Nat) := ((List.range C.length).filter (uniqI C)).map fun i => C.getD i []
theorem uniq_upto (C : List (List Nat)) (x : List Nat) : ∀ k, k ≤ C.length → x ∈ C.take k → x ∈ ((List.range k).filter (uniqI C)).map fun i => C.getD i []
  | 0, _, h => by simp at h
  | k + 1, hk, h => by
    have e : C[k]? = some (C.getD k []) := by rw [List.getD_eq_getElem?_getD, List.getElem?_eq_getElem (by omega)]; rfl
    rw [List.take_add_one, e] at h
    rw [List.range_succ, List.filter_append, List.map_append]
    by_cases hx : x ∈ C.take k
    · exact List.mem_append_left _ (uniq_upto C x k (by omega) hx)
    · have hx2 : x = C.getD k [] := by
        rcases List.mem_append.mp h with z | z
        · exact (hx z).elim
        · exact List.mem_singleton.mp z
      have hu : uniqI C k = true := by
        unfold uniqI
        rw [← hx2]
        simpa using hx
      rw [List.filter_cons_of_pos hu]
      exact List.mem_append_right _ (by rw [hx2]; exact List.mem_singleton.mpr rfl)
theorem mem_uniq {C : List (List Nat)} {x : List Nat} : x ∈ uniqL C ↔ x ∈ C := by
  constructor
  · intro h
    obtain ⟨i, hi, rfl⟩ := List.mem_map.mp h
    have hi := List.mem_range.mp (List.mem_filter.mp hi).1
    have e : C[i]? = some (C.getD i []) := by rw [List.getD_eq_getElem?_getD, List.getElem?_eq_getElem hi]; rfl
    exact List.mem_of_getElem? e
  · intro h
    exact uniq_upto C x C.length (Nat.le_refl _) (by rw [List.take_length]; exact h)
theorem uniq_nodup (C : List (List Nat)) : (uniqL C).Nodup := by
  refine List.pairwise_map.mpr (List.Pairwise.imp_of_mem ?_ (List.pairwise_lt_range.filter (uniqI C)))
  intro i j hi hj hij e
  have hj2 := (List.mem_filter.mp hj).2
  have hil := List.mem_range.mp (List.mem_filter.mp hi).1
  unfold uniqI at hj2
  rw [← e] at hj2
  have : C.getD i [] ∈ C.take j := by
    rw [List.getD_eq_getElem?_getD, List.getElem?_eq_getElem hil]
    exact List.mem_take_iff_getElem.mpr ⟨i, by omega, rfl⟩
  rw [show (C.take j).contains (C.getD i []) = true from List.contains_iff_mem.mpr this] at hj2
  cases hj2
theorem any_lots (l : List (List Nat)) (d : List Nat) : ((l.map lotD).any fun z => PyData.eqv z (lotD d)) = l.contains d := by
  induction l with
  | nil => rfl
  | cons x r ih =>
    rw [List.map_cons, List.any_cons, ih, eqv_lots, List.contains_cons]
    congr 1
    by_cases h : x = d
    · subst h; rfl
    · have e1 : (x == d) = false := by simpa using h
      have e2 : (d == x) = false := by simpa using fun z : d = x => h z.symm
      rw [e1, e2]
/-- a comprehension that makes new lists -/
def FltN {α : Type} (f : α → PyData) (l : List α) (p : α → Bool) (H1 : Hp) (D : Addr) (i : Nat) (H' : Hp) : Prop := Same H1 H' ∧ ∃ vs, H' D = some (.lst vs) ∧ DtAll (off D H') vs (((l.take i).filter p).map f) ∧ vs.length ≤ i
theorem FltN.keep {α : Type} {f : α → PyData} {l : List α} {p : α → Bool} {H1 H' H2 : Hp} {D : Addr} {i : Nat} {d : α} {y : V} (F : FltN f l p H1 D i H') (hD : H1 D = none) (hi : l[i]? = some d) (hp : p d = true) (hy : Dt (off D H2) y (f d)) (hz : i ≤ 1000000) (e2 : Same H' H2) :
    ∃ acc, H2 D = some (.lst acc) ∧ acc.length < sizeLine ∧ FltN f l p H1 D (i + 1) (upd H2 D (.lst (acc ++ [y]))) := by
  obtain ⟨s, vs, e, hv, hl⟩ := F
  refine ⟨vs, e2 _ _ e, by rw [sizeLine_eq]; omega, fun b o hb => ?_, vs ++ [y], upd_same, ?_, by rw [List.length_append]; show vs.length + 1 ≤ i + 1; omega⟩
  · rw [upd_ne (ne_of_none hb hD)]
    exact e2 _ _ (s b o hb)
  · rw [off_upd, List.take_add_one, hi, List.filter_append, List.map_append]
    refine (hv.to (off_mono e2)).app ?_
    show DtAll _ [y] ((List.filter p [d]).map f)
    rw [List.filter_cons_of_pos hp]
    exact .cons hy .nil
theorem FltN.skip {α : Type} {f : α → PyData} {l : List α} {p : α → Bool} {H1 H' H2 : Hp} {D : Addr} {i : Nat} {d : α} (F : FltN f l p H1 D i H') (hi : l[i]? = some d) (hp : p d = false) (e2 : Same H' H2) : FltN f l p H1 D (i + 1) H2 := by
  obtain ⟨s, vs, e, hv, hl⟩ := F
  refine ⟨s.trans e2, vs, e2 _ _ e, ?_, by omega⟩
  rw [List.take_add_one, hi, List.filter_append]
  show DtAll _ vs (List.map f (_ ++ List.filter p [d]))
  rw [List.filter_cons_of_neg (by rw [hp]; exact Bool.false_ne_true), List.filter_nil, List.append_nil]
  exact hv.to (off_mono e2)
theorem few_all {n : Nat} (h : n ≤ 8) (ms : List Nat) : ∀ l ∈ ms.map (bitsN n), Few l := fun l hl => by
  obtain ⟨m, _, rfl⟩ := List.mem_map.mp hl
  exact few_bits h
theorem isX_few {n : Nat} {ms : List Nat} {R : List (List Nat)} (x : IsX n ms R) (h : n ≤ 8) : ∀ l ∈ R, Few l := fun l hl => by
  obtain ⟨m, _, _, rfl⟩ := (x.mem l).mp hl
  exact few_bits h
theorem isX_masks {n : Nat} {ms : List Nat} {R : List (List Nat)} (x : IsX n ms R) : R = (R.map maskN).map (bitsN n) ∧ ∀ t, t ∈ R.map maskN ↔ t < 2 ^ n ∧ LeastM ms t := by
  constructor
  · rw [List.map_map]
    refine (List.map_id R).symm.trans (List.map_congr_left fun l hl => ?_)
    obtain ⟨m, h1, _, rfl⟩ := (x.mem l).mp hl
    show bitsN n m = bitsN n (maskN (bitsN n m))
    rw [mask_bits h1]
  · intro t
    rw [List.mem_map]
    constructor
    · rintro ⟨l, hl, rfl⟩
      obtain ⟨m, h1, h2, rfl⟩ := (x.mem l).mp hl
      rw [mask_bits h1]
      exact ⟨h1, h2⟩
    · rintro ⟨h1, h2⟩
      exact ⟨bitsN n t, (x.mem _).mpr ⟨t, h1, h2, rfl⟩, mask_bits h1⟩
def spRight : Sp := fun vs H Q _ => ∃ (a : Addr) (t m : Int), vs = [.ref a] ∧ Gn a t m H ∧ m + 100000 < 4294967296 ∧ ∀ H', SameX a H H' → Q (.bl true) H'
theorem ok_law_right (T : Tx K mg) : FnG P w K mg base CX0 5 T.a_law_right T.d_law_right ["_law_generator_here"] spRight := by
  have G_law_random := ok_rnd (P := P) (w := w) (base := base) T
  have G_law_lots := ok_law_lots (P := P) (w := w) (base := base) T
  have G_law_due := ok_law_due (P := P) (w := w) (base := base) T
  have G_law_least := ok_law_least (P := P) (w := w) (base := base) T
  have G_crossing := ok_crossing (P := P) (w := w) (base := base) T
  refine bodyG0 T.F_law_right sc_law_right (fun vs H Q E h => ?_) (fun cdv A outer s H vs Q E gd hr h => ?_)
  · obtain ⟨a, t, m, rfl, _⟩ := h; rfl
  · obtain ⟨a, t, m, rfl, g0, hm, q⟩ := h
    refine ⟨_, (pss_cons (ps_set (i := 1) sc_law_right.nd rfl (Or.inl rfl) (pe_g G_law_random gd (hr.mono (by decide)) (by rfl) T.g_law_random T.F_law_random.kp T.b_law_random .nil pass0 (pa_cons (pv 0) (pa_cons pe_int pa_nil))))
      (pss_cons (ps_set (i := 2) sc_law_right.nd rfl (Or.inr rfl) (pe_g G_law_lots gd (hr.mono (by decide)) (by rfl) T.g_law_lots T.F_law_lots.kp T.b_law_lots .nil pass0 (pa_cons (pv 1) pa_nil)))
      (pss_cons (ps_set (i := 3) sc_law_right.nd rfl (Or.inr rfl) (pe_lc (own := [("_law_turn", 9)]) (g := gName 9) (tt := tYes) rfl sc_law_right.nd (pi_range1 (by rfl) T.z_range (pa_cons (pe_g G_law_random gd (hr.mono (by decide)) (by rfl) T.g_law_random T.F_law_random.kp T.b_law_random .nil pass0 (pa_cons (pv 0) (pa_cons pe_int pa_nil))) pa_nil)) (blkOk_by (N := ["_law_generator_here", "_law_many_told", "_law_every", "_law_lots_told", "_law_kept", "_law_due_here", "_law_told", "_law_some", "_law_least_here", "_law_turn", "_law_lot", "_law_at"]) (sc := defScope s_law_right) (by decide +kernel)) (fun _ _ _ _ _ => (pg_name (i := 9) sc_law_right.nd rfl (Or.inl rfl))) (fun _ _ _ _ _ => pts_nil) (fun _ _ _ _ _ => (pe_callTy (call_listK (K := K) rfl) (by rfl) T.z_list (by decide +kernel) (pa_cons (pe_ix (ix_listK (K := K) rfl) (pv 2) (pe_g G_law_random gd (hr.mono (by decide)) (by rfl) T.g_law_random T.F_law_random.kp T.b_law_random .nil pass0 (pa_cons (pv 0) (pa_cons (pe_callB (call_lenK (K := K) rfl) (by rfl) T.z_len (by decide +kernel) (pa_cons (pv 2) pa_nil)) pa_nil))) (fun _ _ => rfl)) pa_nil)))))
      (C8.pss_cut (ps_if (pt_cmpR op_gt (pe_g G_law_random gd (hr.mono (by decide)) (by rfl) T.g_law_random T.F_law_random.kp T.b_law_random .nil pass0 (pa_cons (pv 0) (pa_cons pe_int pa_nil))) pe_int (nomark _)) (pss_one (ps_set (i := 3) sc_law_right.nd rfl (Or.inr rfl) (pe_lc (own := [("_law_lot", 10)]) (g := gName 10) rfl sc_law_right.nd (pi_list (pv 3)) (blkOk_by (N := ["_law_generator_here", "_law_many_told", "_law_every", "_law_lots_told", "_law_kept", "_law_due_here", "_law_told", "_law_some", "_law_least_here", "_law_turn", "_law_lot", "_law_at"]) (sc := defScope s_law_right) (by decide +kernel)) (fun _ _ _ _ _ => (pg_name (i := 10) sc_law_right.nd rfl (Or.inl rfl))) (fun _ _ _ _ _ => (pts_one (pt_cmpR (op_neT hr.units) (pv 10) (pe_lst pa_nil) (nomark _)))) (fun _ _ _ _ _ => (pv 10))))) pss_nil)
      (pss_cons (ps_par (i := 4) (j := 5) rfl sc_law_right.nd rfl rfl (by decide) rfl rfl (pa_cons (pe_callB (call_reprT gd hr.units) (by rfl) T.z_repr (by decide +kernel) (pa_cons (pv 3) pa_nil)) (pa_cons (pe_g G_law_due gd (hr.mono (by decide)) (by rfl) T.g_law_due T.F_law_due.kp T.b_law_due .nil pass0 (pa_cons (pv 1) (pa_cons (pv 3) pa_nil))) pa_nil)) (by rfl))
      (pss_cons (ps_set (i := 6) sc_law_right.nd rfl (Or.inl rfl) (pe_g G_crossing gd (hr.mono (by decide)) (by rfl) T.g_crossing T.F_crossing.kp T.b_crossing .nil pass0 (pa_cons (pv 1) (pa_cons (pv 3) pa_nil))))
      (pss_cons (ps_if (PW.pt (pw_or (pt_cmpR op_ne (pe_callB (call_reprT gd hr.units) (by rfl) T.z_repr (by decide +kernel) (pa_cons (pv 6) pa_nil)) (pe_callB (call_reprT gd hr.units) (by rfl) T.z_repr (by decide +kernel) (pa_cons (pv 5) pa_nil)) (nomark _)) (pw_or1 (pt_cmpR op_ne (pe_callB (call_reprT gd hr.units) (by rfl) T.z_repr (by decide +kernel) (pa_cons (pv 3) pa_nil)) (pv 4) (nomark _))))) (pss_one (ps_ret pe_bl)) pss_nil)
      (pss_cons (ps_for PassesOwn.never rfl (pi_list (pv 6)) (pg_name (i := 7) sc_law_right.nd rfl (Or.inl rfl)) (pss_one (ps_expr (pe_bm PySem.F.plainAttrs_list PySem.F.slot_list_append PySem.F.type_list_append mt_append (pv 7) (pa_cons pe_int pa_nil)))))
      (pss_cons (ps_expr (pe_bm PySem.F.plainAttrs_list PySem.F.slot_list_append PySem.F.type_list_append mt_append (pv 6) (pa_cons (pe_lst pa_nil) pa_nil)))
      (pss_cons (ps_if (pt_cmpR op_ne (pe_callB (call_reprT gd hr.units) (by rfl) T.z_repr (by decide +kernel) (pa_cons (pe_gk G_crossing gd (hr.mono (by decide)) (by rfl) T.g_crossing T.F_crossing.kp T.w_crossing_lots_many pass0 (pk_cons (pv 3) (pk_cons (pv 1) pk_nil))) pa_nil)) (pe_callB (call_reprT gd hr.units) (by rfl) T.z_repr (by decide +kernel) (pa_cons (pv 5) pa_nil)) (nomark _)) (pss_one (ps_ret pe_bl)) pss_nil)
      (pss_cons (ps_set (i := 8) sc_law_right.nd rfl (Or.inl rfl) (pe_callB (cr_sortedLK (K := K) rfl hr.units) (by rfl) T.z_sorted (by decide +kernel) (pa_cons (pe_g G_law_least gd (hr.mono (by decide)) (by rfl) T.g_law_least T.F_law_least.kp T.b_law_least .nil pass0 (pa_cons (pe_lc (own := [("_law_at", 11), ("_law_lot", 10)]) (g := gTup K 2 (gCons (gName 11) (gCons (gName 10) gNil))) rfl sc_law_right.nd (pi_enumK (K := K) rfl (by rfl) T.z_enumerate (pa_cons (pv 3) pa_nil)) (blkOk_by (N := ["_law_generator_here", "_law_many_told", "_law_every", "_law_lots_told", "_law_kept", "_law_due_here", "_law_told", "_law_some", "_law_least_here", "_law_turn", "_law_lot", "_law_at"]) (sc := defScope s_law_right) (by decide +kernel)) (fun _ _ _ _ _ => (pg_tup (by rfl) (pgs_cons (pg_name (i := 11) sc_law_right.nd rfl (Or.inl rfl)) (pgs_cons (pg_name (i := 10) sc_law_right.nd rfl (Or.inl rfl)) pgs_nil)))) (fun _ _ _ _ _ => (pts_one (pt_cmpR (op_notInT (units1 hr)) (pv 10) (pe_slice (sl_listK (K := K) rfl) (pv 3) po_none (po_some (pv 11))) (by rfl)))) (fun _ _ _ _ _ => (pe_callTy (call_listK (K := K) rfl) (by rfl) T.z_list (by decide +kernel) (pa_cons (pv 10) pa_nil)))) pa_nil)) pa_nil)))
      (pss_one (ps_ret (pe_cmpR op_eq (pe_callB (call_reprT gd hr.units) (by rfl) T.z_repr (by decide +kernel) (pa_cons (pe_g G_crossing gd (hr.mono (by decide)) (by rfl) T.g_crossing T.F_crossing.kp T.b_crossing .nil pass0 (pa_cons (pv 1) (pa_cons (pv 5) pa_nil))) pa_nil)) (pe_callB (call_reprT gd hr.units) (by rfl) T.z_repr (by decide +kernel) (pa_cons (pv 8) pa_nil)) (nomark _))))))))))))))), ?_⟩
    have big : ∀ {b : Nat}, b ≤ 1000 → b < 2 ^ 2000 := fun {b} hb => by
      have : (1000 : Nat) < 2 ^ 2000 := by decide +kernel
      omega
    refine ⟨_, rfl, a, 7, t, m, rfl, g0, by omega, by decide, big (by decide), fun n H1 hn x1 g1 => ?_⟩
    refine ⟨_, rfl, n, rfl, by omega, fun L p qs H2 eL lL td => ?_⟩
    obtain ⟨s2, np, hp, qk, qe⟩ := td
    have npa := g1.ne np
    have nqa : ∀ r ∈ qs, r ≠ a := fun r hr => g1.ne (qk r hr).1
    have ql : qs.length = 2 ^ n := by rw [← lL, ← qe, List.length_map]
    have p64 : 2 ^ n ≤ 64 := Nat.pow_le_pow_right (by decide) (show n ≤ 6 by omega)
    have ppos : 0 < 2 ^ n := Nat.pow_pos (by decide)
    refine ⟨_, rfl, a, 6, t, _, rfl, g1.same s2, by omega, by decide, big (by decide), fun k H3 hk x3 g3 => ?_⟩
    have x03 : SameX a H H3 := x1.trans ((SameX.of s2).trans x3)
    refine ⟨k, rfl, by omega, by omega, fun D hD => ?_⟩
    have nDa := g3.ne hD
    have hp3 := x3 _ _ npa hp
    have qk3 : ∀ r ∈ qs, H3 r = some (.lst (natV (dN H2 r))) := fun r hr => x3 _ _ (nqa r hr) (qk r hr).2
    refine lc_range (lo := 0) (n := k) (fun i H' => SameX a H3 H' ∧ Gn a t (m + 100 + 100 + 100 * i) H' ∧ ∃ (ps : List Addr) (ms : List Nat), H' D = some (.lst (ps.map V.ref)) ∧ ps.length = i ∧ (∀ r ∈ ps, (r ≠ D ∧ r ≠ a) ∧ LotAt H' r) ∧ ps.map (dN H') = ms.map (bitsN n) ∧ ∀ m ∈ ms, m < 2 ^ n) ⟨SameX.of (same_new' hD), (g3.keep nDa).up (by omega), [], [], upd_same, rfl, (fun r hr => nomatch hr), rfl, (fun r hr => nomatch hr)⟩ ?_ ?_
    · rintro i H4 hi ⟨x4, g4, ps, ms, e4, pl, pk, pe, lt⟩
      refine ⟨rfl, yes_if ?_⟩
      have sqp : SqL K H4 p (qs.map V.ref) := .inl (.inl (x4 _ _ npa hp3))
      refine ⟨_, rfl, _, rfl, _, rfl, p, _, rfl, .inl sqp, a, 2 ^ n, t, _, by rw [List.length_map, ql]; rfl, g4, by omega, ppos, big (by omega), fun j H5 hj x5 g5 => ?_⟩
      have hj2 : j < qs.length := by rw [ql]; exact hj
      have sqp5 : SqL K H5 p (qs.map V.ref) := .inl (.inl (x5 _ _ npa (x4 _ _ npa hp3)))
      have er := List.getElem?_eq_getElem hj2
      have mr := List.getElem_mem hj2
      generalize qs[j] = r at er mr
      have hr5 : H5 r = some (.lst (natV (dN H2 r))) := x5 _ _ (nqa r mr) (x4 _ _ (nqa r mr) (qk3 r mr))
      refine ⟨p, _, (j : Int), _, rfl, rfl, sqp5, atI_nat (j := j) (v := .ref r) (by rw [List.getElem?_map, er]; rfl), r, _, rfl, .inl (.inl (.inl hr5)), fun u hu => ?_⟩
      obtain ⟨b, hb, eb⟩ := (eL.mem (dN H2 r)).mp (by rw [← qe]; exact List.mem_map.mpr ⟨r, mr, rfl⟩)
      rw [eb]
      have e5 := x5 _ _ nDa e4
      have nDu : D ≠ u := ne_of_none e5 hu
      have nua := g5.ne hu
      have sU := same_new' (o := .lst (natV (bitsN n b))) hu
      have hu6 : (upd H5 u (.lst (natV (bitsN n b)))) u = some (.lst (natV (bitsN n b))) := upd_same
      have e6 := sU _ _ e5
      have x6 := (x4.trans x5).trans (SameX.of sU)
      have g6 := g5.same sU
      have pk6 : ∀ r ∈ ps, (r ≠ D ∧ r ≠ a) ∧ (upd H5 u (.lst (natV (bitsN n b)))) r = some (.lst (natV (dN H4 r))) := fun r hr => ⟨(pk r hr).1, sU _ _ (x5 _ _ (pk r hr).1.2 (pk r hr).2)⟩
      revert hu6 e6 x6 g6 pk6
      generalize (upd H5 u (.lst (natV (bitsN n b)))) = H6
      intro hu6 e6 x6 g6 pk6
      have kp : ∀ {r : Addr} {l : List Nat}, r ≠ D → H6 r = some (.lst (natV l)) → (upd H6 D (.lst (ps.map V.ref ++ [.ref u]))) r = some (.lst (natV l)) := fun {r l} hr hl => by rw [upd_ne hr]; exact hl
      refine ⟨_, e6, by rw [List.length_map, pl]; exact small1000 (by omega), fun b o hb ho => ?_, (g6.keep nDa).up (by omega), ps ++ [u], ms ++ [b], by rw [upd_same, List.map_append]; rfl, by rw [List.length_append, pl]; rfl, fun r' hr' => ?_, ?_, fun m' hm' => ?_⟩
      · rw [upd_ne (ne_of_none ho hD)]
        exact x6 b o hb ho
      · rcases List.mem_append.mp hr' with z | z
        · exact ⟨(pk6 r' z).1, .of (kp (pk6 r' z).1.1 (pk6 r' z).2)⟩
        · rw [List.mem_singleton.mp z]
          exact ⟨⟨nDu.symm, nua⟩, .of (kp nDu.symm hu6)⟩
      · rw [List.map_append, List.map_append, ← pe]
        congr 1
        · exact List.map_congr_left fun r' hr' => dN_of (kp (pk6 r' hr').1.1 (pk6 r' hr').2)
        · show [dN _ u] = [bitsN n b]
          rw [dN_of (kp nDu.symm hu6)]
      · rcases List.mem_append.mp hm' with z | z
        · exact lt m' z
        · rw [List.mem_singleton.mp z]; exact hb
    rintro H4 ⟨x4, g4, ps, ms, e4, pl, pk, pe, lt⟩
    dsimp only [gName]
    have x04 := x03.trans x4
    have msl : ms.length ≤ 5 := by have := congrArg List.length pe; rw [List.length_map, List.length_map] at this; omega
    have dx : Dt (off a H4) (.ref D) (lotsD (ms.map (bitsN n))) := by
      rw [← pe]
      refine .lst (off_of nDa e4) ?_
      have := DtAll.of_lots (H := off a H4) ps fun r hr => .of (off_of (pk r hr).1.2 (pk r hr).2)
      rwa [List.map_congr_left (g := dN H4) fun r hr => dN_of (off_of (pk r hr).1.2 (pk r hr).2)] at this
    clear pk pe e4 pl x4 hp3 qk3 hD x3 hp qk qe
    refine ⟨fun σ HB => ∃ (x : V) (ms : List Nat), σ = [some (.ref a), some (.int n), some (.ref p), some x, none, none, none, none, none, none, none, none] ∧ SameX a H HB ∧ Dt HB x (lotsD (ms.map (bitsN n))) ∧ (∀ m ∈ ms, m < 2 ^ n) ∧ ms.length ≤ 5, ?_, ?_⟩
    · refine ⟨_, rfl, a, 4, t, _, rfl, g4, by omega, by decide, big (by decide), fun r H5 hr5 x5 g5 => ⟨_, _, rfl, rfl, _, rfl, ?_⟩⟩
      have dx5 := (dx.to x5.off).on
      by_cases h0 : (0 : Int) < (r : Int)
      · rw [decide_eq_true h0]
        obtain ⟨a3, ps3, e3, ha3, pe3, pk3⟩ := dx5.lots
        cases e3
        have sq3 : SqL K H5 D (ps3.map V.ref) := .inl (.inl ha3)
        have pl3 : ps3.length = (ms.map (bitsN n)).length := by rw [← pe3, List.length_map]
        refine iteT ⟨_, rfl, D, rfl, ⟨_, sq3⟩, fun F hF => ?_⟩
        refine lc_list (K := K) (a := D) (xs := ps3.map V.ref) (fun i H' => FltM lotD (ms.map (bitsN n)) (fun l => !(natD l).isEmpty) H5 F i H') (FltM.start hF) (fun i H' _ e => e.1.seq sq3) ?_ ?_
        · rintro i x H6 hi F6
          obtain ⟨r, l, rfl, hl, hr, il⟩ := lot_get pe3 pk3 hi
          have fl := few_all (by omega) ms l (List.mem_of_getElem? hl)
          have il2 : i < (ms.map (bitsN n)).length := by omega
          rw [List.length_map] at il2
          refine ⟨rfl, _, rfl, Nat.zero_le _, fun E hE => ne_nilM (Dt.nats (F6.1 _ _ hr)) hE (fun d hd => ?_) ⟨_, rfl, ?_⟩⟩
          · obtain ⟨y, hy, rfl⟩ := List.mem_map.mp hd
            exact nat_nice (by have := fl.2 y hy; omega)
          · have sE := same_new' (o := .lst []) hE
            cases hb : (!(natD l).isEmpty) with
            | true => exact iteT ⟨_, rfl, F6.keep hF hl hb (Dt.nats hr) (by omega) sE⟩
            | false => exact iteF (F6.skip hl hb sE)
        · rintro H6 F6
          obtain ⟨s6, d6⟩ := F6.done (by rw [List.length_map, pl3])
          rw [List.filter_map] at d6
          exact ⟨_, _, rfl, (x04.trans x5).trans (SameX.of s6), d6, fun m hm => lt m (List.mem_filter.mp hm).1, Nat.le_trans (List.length_filter_le _ _) msl⟩
      · rw [decide_eq_false h0]
        exact iteF ⟨_, ms, rfl, x04.trans x5, dx5, lt, msl⟩
    clear dx lt msl ms x04 g4 H4 x03 nDa D g3 H3 hk k
    rintro σ HB ⟨x, ms, rfl, xB, dx, lt, msl⟩
    have n8 : n ≤ 8 := by omega
    have fewC := few_all n8 ms
    have niceC : Nice (lotsD (ms.map (bitsN n))) := lots_shows fewC (by rw [List.length_map]; omega)
    refine ⟨_, rfl, x, _, rfl, dx, niceC.shows, _, rfl, _, rfl, x, n, _, rfl, dx, n8, fewC, by rw [List.length_map]; omega, fun L2 p2 H5 eL2 lL2 s5 d5 => ⟨_, _, rfl, ?_⟩⟩
    have isR := due_is eL2 lt
    have lenR : (dueL L2 (ms.map (bitsN n))).length ≤ 64 := by
      unfold dueL leastL
      refine Nat.le_trans (List.length_filter_le _ _) (Nat.le_trans (List.length_filter_le _ _) ?_)
      omega
    generalize dueL L2 (ms.map (bitsN n)) = R at isR lenR d5
    have fewR := isX_few isR n8
    have niceR : Nice (lotsD R) := lots_shows fewR (by omega)
    have dx5 := dx.to s5
    refine ⟨_, rfl, _, rfl, x, n, ms, rfl, dx5, n8, lt, by omega, fun R2 p3 qs3 H6 isR2 _ td => ?_⟩
    cases isR2.eq isR
    have tne := td.ne
    have dt3 := td.dt
    obtain ⟨s6, np3, hp3, qk3, qe3⟩ := td
    dsimp only [gName]
    refine ⟨_, rfl, _, _, rfl, dt3, niceR.shows, _, rfl, _, _, rfl, d5.to s6, niceR.shows, rfl, _, rfl, ?_⟩
    rw [veq]
    refine iteF ⟨_, rfl, _, _, rfl, dx5.to s6, niceC.shows, _, rfl, rfl, _, rfl, ?_⟩
    rw [veq]
    refine iteF ?_
    have ql3 : qs3.length ≤ 64 := by rw [← List.length_map (f := dN H6), qe3]; exact lenR
    have new3 : ∀ {r : Addr} {o o' : HO} {b : Addr} {H' : Hp}, H5 r = none → H5 b = some o → H' b = some o → (upd H' r o') b = some o := fun {r o o' b H'} h1 h2 h3 => by rw [upd_ne (ne_of_none h2 h1)]; exact h3
    refine ⟨_, rfl, p3, rfl, ⟨_, .inl (.inl hp3)⟩, ?_⟩
    refine for_list (K := K) (a := p3) (xs := qs3.map V.ref) (fun i σ H' => (∃ z7 : Option V, σ = [some (.ref a), some (.int n), some (.ref p), some x, some (.str (lotsD (ms.map (bitsN n))).shown), some (.ref p2), some (.ref p3), z7, none, none, none, none]) ∧ Same H5 H' ∧ H' p3 = some (.lst (qs3.map V.ref)) ∧ ∀ r ∈ qs3, ∃ xs, H' r = some (.lst xs) ∧ xs.length ≤ 100 + i) ⟨⟨none, rfl⟩, s6, hp3, fun r hr => ⟨_, (qk3 r hr).2, by rw [natV_len]; exact (fewR (dN H6 r) (by rw [← qe3]; exact List.mem_map.mpr ⟨r, hr, rfl⟩)).1⟩⟩ (fun i σ H' _ e => .inl (.inl e.2.2.1)) ?_ ?_
    · rintro i y σ H7 hi ⟨⟨z7, rfl⟩, s7, e7, k7⟩
      rw [List.getElem?_map] at hi
      obtain ⟨r, hr, rfl⟩ := Option.map_eq_some_iff.mp hi
      have mr := List.mem_of_getElem? hr
      have il := (List.getElem?_eq_some_iff.mp hr).1
      obtain ⟨xs, hx, lx⟩ := k7 r mr
      refine ⟨_, rfl, .inl ⟨rfl, _, .inl (.inl hx)⟩, r, xs, _, rfl, rfl, hx, by rw [sizeLine_eq]; omega, ⟨_, rfl⟩, fun b o hb => new3 (qk3 r mr).1 hb (s7 b o hb), by rw [upd_ne (tne r mr).symm]; exact e7, fun r' hr' => ?_⟩
      by_cases z : r' = r
      · rw [z, upd_same]
        exact ⟨_, rfl, by rw [List.length_append]; show xs.length + 1 ≤ _; omega⟩
      · obtain ⟨xs', h1, h2⟩ := k7 r' hr'
        rw [upd_ne z]
        exact ⟨xs', h1, by omega⟩
    rintro σ H7 ⟨⟨z7, rfl⟩, s7, e7, k7⟩
    refine ⟨_, rfl, .inl ⟨rfl, _, .inl (.inl e7)⟩, Nat.zero_le _, fun u hu => ?_⟩
    have sU := same_new' (o := .lst []) hu
    refine ⟨p3, _, _, rfl, rfl, sU _ _ e7, by rw [List.length_map, sizeLine_eq]; omega, ?_⟩
    have s8 : Same H5 (upd (upd H7 u (.lst [])) p3 (.lst (qs3.map V.ref ++ [.ref u]))) := fun b o hb => new3 np3 hb (sU _ _ (s7 b o hb))
    revert s8
    generalize (upd (upd H7 u (.lst [])) p3 (.lst (qs3.map V.ref ++ [.ref u]))) = H8
    intro s8
    clear sU hu e7 k7 s7
    refine ⟨_, rfl, _, rfl, rfl, x, n, ms, rfl, dx5.to s8, n8, lt, by omega, fun R3 p4 qs4 H9 isR3 _ td4 => ?_⟩
    cases isR3.eq isR
    have s9 := td4.1
    refine ⟨_, _, rfl, td4.dt, niceR.shows, _, rfl, _, _, rfl, d5.to (s8.trans s9), niceR.shows, rfl, _, rfl, ?_⟩
    rw [veq]
    refine iteF ?_
    have s59 := s8.trans s9
    have dx9 := dx5.to s59
    have d9 := d5.to s59
    have sB9 := s5.trans s59
    clear td4 isR3 isR2 dt3 tne hp3 qk3 qe3 s9 s8 s6 np3 new3 dx5 d5
    obtain ⟨a3, ps3, rfl, ha3, pe3, pk3⟩ := dx9.lots
    have sq3 : SqL K H9 a3 (ps3.map V.ref) := .inl (.inl ha3)
    have pl3 : ps3.length = (ms.map (bitsN n)).length := by rw [← pe3, List.length_map]
    have pl5 : ps3.length ≤ 5 := by rw [pl3, List.length_map]; exact msl
    generalize hC : ms.map (bitsN n) = C at *
    refine ⟨_, rfl, a3, _, rfl, sq3, fun D hD => ?_⟩
    refine lc_it walk_enum (fun i H' => FltN (fun i => lotD (C.getD i [])) (List.range C.length) (uniqI C) H9 D i H') ⟨same_new' hD, [], upd_same, .nil, Nat.le_refl _⟩ (fun i H' _ e => e.1.seq sq3) ?_ ?_
    · rintro i y H2 H3 hi F ⟨T', x1, x2, rfl, hT, rfl, f1, f2⟩
      cases f1
      obtain ⟨r, l, rfl, hl, hr, il⟩ := lot_get pe3 pk3 f2
      have hi2 : (List.range C.length)[i]? = some i := List.getElem?_range (by omega)
      have gl : C.getD i [] = l := by rw [List.getD_eq_getElem?_getD, hl]; rfl
      have fl := fewC l (List.mem_of_getElem? hl)
      refine ⟨T', [.int i, .ref r], rfl, .inl (.inl upd_same), rfl, _, _, rfl, _, _, rfl, rfl, ?_⟩
      have sT := same_new' (o := .tup [.int i, .ref r]) hT
      revert sT
      generalize (upd H2 T' (.tup [.int i, .ref r])) = H3
      intro sT
      have s3 := F.1.trans sT
      refine ⟨rfl, _, rfl, _, rfl, _, rfl, _, rfl, a3, _, rfl, s3.seq sq3, fun v hv => ?_⟩
      rw [cutR_to]
      have sV := same_new' (o := .lst ((ps3.take i).map V.ref)) hv
      have hv4 : (upd H3 v (.lst ((ps3.take i).map V.ref))) v = some (.lst ((ps3.take i).map V.ref)) := upd_same
      revert sV hv4
      generalize (upd H3 v (.lst ((ps3.take i).map V.ref))) = H4
      intro sV hv4
      have s4 := s3.trans sV
      have dv : Dt H4 (.ref v) (.list ((C.take i).map lotD)) := by
        have := Dt.of_lots hv4 fun r hr => (pk3 r (List.mem_of_mem_take hr)).to s4
        rw [lots_same s4 fun r hr => pk3 r (List.mem_of_mem_take hr), List.map_take, pe3] at this
        exact this
      refine ⟨_, _, Dt.nats (s4 _ _ hr), dv, fl.nice.shaped, shaped_list (fun d hd => ?_), _, rfl, ?_⟩
      · obtain ⟨l', hl', rfl⟩ := List.mem_map.mp hd
        exact (fewC l' (List.mem_of_mem_take hl')).nice
      show if (!((C.take i).map lotD).any fun z => PyData.eqv z (lotD l)) = true then _ else _
      rw [any_lots]
      cases hb : (C.take i).contains l with
      | true => exact iteF (F.skip hi2 (by unfold uniqI; rw [gl, hb]; rfl) (sT.trans sV))
      | false =>
        refine iteT ⟨_, rfl, r, _, rfl, .inl (.inl (.inl (s4 _ _ hr))), fun z hz => ?_⟩
        have sZ := same_new' (o := .lst (natV l)) hz
        have nzD : z ≠ D := fun e => by
          obtain ⟨_, vs, e2, _⟩ := F
          rw [e, sV _ _ (sT _ _ e2)] at hz
          cases hz
        exact F.keep hD hi2 (by unfold uniqI; rw [gl, hb]; rfl) (by rw [gl]; exact Dt.nats (off_of nzD upd_same)) (by omega) (sT.trans (sV.trans sZ))
    rintro H2 ⟨s2', vs, e2, dv, lv⟩
    have fewU : ∀ l ∈ uniqL C, Few l := fun l hl => fewC l (mem_uniq.mp hl)
    have cl : C.length ≤ 5 := by omega
    rw [List.length_map, pl3, List.take_of_length_le (show (List.range C.length).length ≤ C.length by rw [List.length_range]; exact Nat.le_refl _)] at dv
    have dU : Dt H2 (.ref D) (lotsD (uniqL C)) := by
      refine .lst e2 ?_
      unfold uniqL
      rw [List.map_map]
      exact dv.to off_same
    have lU : (uniqL C).length ≤ 5 := by
      unfold uniqL
      rw [List.length_map]
      refine Nat.le_trans (List.length_filter_le _ _) ?_
      rw [List.length_range]
      exact cl
    refine ⟨.ref D, _, rfl, dU, fewU, by omega, fun p5 HC sC dC => ?_⟩
    obtain ⟨a5, ps5, e5, ha5, pe5, pk5⟩ := dC.lots
    cases e5
    refine ⟨p5, ps5, rfl, .inl (.inl ha5), pk5, fun qs5 p6 pq pw hp6 => ?_⟩
    have sE := same_new' (o := .lst (qs5.map V.ref)) hp6
    have hS := (pq.map (dN HC))
    rw [pe5] at hS
    have nodL : (leastL (uniqL C)).Nodup := List.Nodup.sublist List.filter_sublist (uniq_nodup C)
    have saS : SA (qs5.map (dN HC)) := .of pw (hS.nodup_iff.mpr nodL)
    have qk5 : ∀ r ∈ qs5, LotAt HC r := fun r hr => pk5 r (pq.mem_iff.mp hr)
    have dS : Dt (upd HC p6 (.lst (qs5.map V.ref))) (.ref p6) (lotsD (qs5.map (dN HC))) := by
      have := Dt.of_lots (a := p6) (ps := qs5) (H := upd HC p6 (.lst (qs5.map V.ref))) upd_same fun r hr => (qk5 r hr).to sE
      rwa [lots_same sE qk5] at this
    obtain ⟨eR, memT⟩ := isX_masks isR
    have isS : IsX n (R.map maskN) (qs5.map (dN HC)) := twice_is lt memT (U := uniqL C) (fun l => by rw [mem_uniq, hC]) saS fun l => hS.mem_iff
    have s9E := (s2'.trans sC).trans sE
    revert dS s9E
    generalize (upd HC p6 (.lst (qs5.map V.ref))) = HE
    intro dS s9E
    dsimp only [gName]
    refine ⟨_, rfl, _, rfl, .ref p2, n, R.map maskN, rfl, (by rw [← eR]; exact d9.to s9E), n8, fun t ht => ((memT t).mp ht).1, by rw [List.length_map]; omega, fun R4 p7 qs7 HF isR4 lR4 td7 => ?_⟩
    cases isR4.eq isS
    have fewS := isX_few isS n8
    have niceS : Nice (lotsD (qs5.map (dN HC))) := lots_shows fewS (by omega)
    refine ⟨_, _, rfl, td7.dt, niceS.shows, _, rfl, _, _, rfl, dS.to td7.1, niceS.shows, rfl, ?_⟩
    rw [veq]
    exact q _ (xB.trans (SameX.of (sB9.trans (s9E.trans td7.1))))

end

end K63

set_option Elab.async false
set_option linter.all false
set_option maxRecDepth 100000
set_option maxHeartbeats 4000000
namespace K63
open PySem PySem.Spec PyProof.Rows L2 Hw
section
variable {P : Program} {w : World} {K : PySem.W.Frag} {mg : Str → Option Value} {base : Heap}

section
variable {te : TE} {ta : TA} {σ : L2.St} {H : Hp} {Q : VK} {QA : List V → Hp → Prop} {c : V} {sp : Sp} {E : XK}
theorem lstC (h : ta σ H fun xs H1 => xs.length ≤ sizeLine ∧ ∀ p, H1 p = none → Q (.ref p) (upd H1 p (.lst xs))) : tLst ta σ H Q := h
theorem consC (h : te σ H fun x H1 => ta σ H1 fun xs H2 => QA (x :: xs) H2) : tCons te ta σ H QA := h
theorem oneL (h : te σ H fun x H1 => QA [x] H1) : tCons te tNil σ H QA := h
theorem cbL {rb : List V → Hp → VK → Prop} (h : ta σ H fun vs H1 => rb vs H1 Q) : tCB rb ta σ H Q := h
theorem opL {r : R2} {tf : TE} (h : te σ H fun x H1 => tf σ H1 fun y H2 => r x y H2 Q) : tOp r te tf σ H Q := h
theorem callC (h : te σ H fun x H1 => sp [c, x] H1 Q E) : tCall sp [] E (tCons (tC c) (tCons te tNil)) σ H Q := h
end
theorem isX_dec {n : Nat} {ms : List Nat} {R : List (List Nat)} (h1 : R.Pairwise fun x y => lexN x y = true) (h2 : ∀ l ∈ R, l ∈ ((List.range (2 ^ n)).filter (leastF n (hitF ms))).map (bitsN n)) (h3 : ∀ l ∈ ((List.range (2 ^ n)).filter (leastF n (hitF ms))).map (bitsN n), l ∈ R) : IsX n ms R := by
  refine ⟨h1, fun l => ?_⟩
  have e : l ∈ R ↔ l ∈ ((List.range (2 ^ n)).filter (leastF n (hitF ms))).map (bitsN n) := ⟨h2 l, h3 l⟩
  rw [e, List.mem_map]
  constructor
  · rintro ⟨m, k1, rfl⟩
    rw [List.mem_filter, List.mem_range] at k1
    exact ⟨m, k1.1, (leastF_iff k1.1).mp k1.2, rfl⟩
  · rintro ⟨m, k1, k2, rfl⟩
    exact ⟨m, List.mem_filter.mpr ⟨List.mem_range.mpr k1, (leastF_iff k1).mpr k2⟩, rfl⟩
theorem x1 : IsX 4 [6, 12] [[1, 3], [2]] := isX_dec (by decide +kernel) (by decide +kernel) (by decide +kernel)
theorem b1 : ([6, 12] : List Nat).map (bitsN 4) = [[1, 2], [2, 3]] := by decide +kernel
theorem x2 : IsX 3 [] [[]] := isX_dec (by decide +kernel) (by decide +kernel) (by decide +kernel)
theorem b2 : ([] : List Nat).map (bitsN 3) = [] := by decide +kernel
theorem x3 : IsX 3 [0, 2] [] := isX_dec (by decide +kernel) (by decide +kernel) (by decide +kernel)
theorem b3 : ([0, 2] : List Nat).map (bitsN 3) = [[], [1]] := by decide +kernel
theorem x4 : IsX 0 [] [[]] := isX_dec (by decide +kernel) (by decide +kernel) (by decide +kernel)
theorem b4 : ([] : List Nat).map (bitsN 0) = [] := by decide +kernel
theorem x5 : IsX 8 [129, 128, 128] [[7]] := isX_dec (by decide +kernel) (by decide +kernel) (by decide +kernel)
theorem b5 : ([129, 128, 128] : List Nat).map (bitsN 8) = [[0, 7], [7], [7]] := by decide +kernel
theorem b6 : ([3, 12, 48] : List Nat).map (bitsN 8) = [[0, 1], [2, 3], [4, 5]] := by decide +kernel
def toldD : List PyData := [lotsD [[1, 3], [2]], lotsD [[]], lotsD [], lotsD [[]], lotsD [[7]]]
theorem toldS : Shows (.list toldD) := Nice.shows (Bnd.nice (k := 4) (b := 200) ⟨by decide +kernel, by decide +kernel, by decide +kernel⟩ (by decide) (by decide))
def spLaw (K : PySem.W.Frag) : Sp := fun vs H Q _ => ∃ (a : Addr) (ns : List Int), vs = [.ref a] ∧ ns.length ≤ 63 ∧ SqL K H a (ns.map V.int) ∧ ∀ H' : Hp, Q (.bl true) H'
theorem ok_law (T : Tx K mg) : FnG P w K mg base CX0 6 T.a_law T.d_law ["_law_script"] (spLaw K) := by
  have G_law_generator := ok_law_generator (P := P) (w := w) (base := base) T
  have G_law_right := ok_law_right (P := P) (w := w) (base := base) T
  have G_crossing := ok_crossing (P := P) (w := w) (base := base) T
  have G_law_due := ok_law_due (P := P) (w := w) (base := base) T
  refine bodyG0 T.F_law sc_law (fun vs H Q E h => ?_) (fun cdv A outer s H vs Q E gd hr h => ?_)
  · obtain ⟨a, ns, rfl, _⟩ := h; rfl
  · obtain ⟨a, ns, rfl, _, hS, q⟩ := h
    refine ⟨_, (pss_cons (ps_for PassesOwn.never rfl (pi_range1 (by rfl) T.z_range (pa_cons pe_int pa_nil)) (pg_name (i := 1) sc_law.nd rfl (Or.inl rfl)) (pss_one (ps_if (pt_not (pt_val (pe_g G_law_right gd (hr.mono (by decide)) (by rfl) T.g_law_right T.F_law_right.kp T.b_law_right .nil pass0 (pa_cons (pe_g G_law_generator gd (hr.mono (by decide)) (by rfl) T.g_law_generator T.F_law_generator.kp T.b_law_generator .nil pass0 (pa_cons (pv 0) (pa_cons (pv 1) pa_nil))) pa_nil)))) (pss_one (ps_ret pe_bl)) pss_nil)))
      (pss_cons (ps_set (i := 2) sc_law.nd rfl (Or.inl rfl) (pe_lst (pa_cons (pe_g G_crossing gd (hr.mono (by decide)) (by rfl) T.g_crossing T.F_crossing.kp T.b_crossing .nil pass0 (pa_cons pe_int (pa_cons (pe_lst (pa_cons (pe_lst (pa_cons pe_int (pa_cons pe_int pa_nil))) (pa_cons (pe_lst (pa_cons pe_int (pa_cons pe_int pa_nil))) pa_nil))) pa_nil))) (pa_cons (pe_g G_crossing gd (hr.mono (by decide)) (by rfl) T.g_crossing T.F_crossing.kp T.b_crossing .nil pass0 (pa_cons pe_int (pa_cons (pe_lst pa_nil) pa_nil))) (pa_cons (pe_g G_crossing gd (hr.mono (by decide)) (by rfl) T.g_crossing T.F_crossing.kp T.b_crossing .nil pass0 (pa_cons pe_int (pa_cons (pe_lst (pa_cons (pe_lst pa_nil) (pa_cons (pe_lst (pa_cons pe_int pa_nil)) pa_nil))) pa_nil))) (pa_cons (pe_g G_crossing gd (hr.mono (by decide)) (by rfl) T.g_crossing T.F_crossing.kp T.b_crossing .nil pass0 (pa_cons pe_int (pa_cons (pe_lst pa_nil) pa_nil))) (pa_cons (pe_g G_crossing gd (hr.mono (by decide)) (by rfl) T.g_crossing T.F_crossing.kp T.b_crossing .nil pass0 (pa_cons pe_int (pa_cons (pe_lst (pa_cons (pe_lst (pa_cons pe_int (pa_cons pe_int pa_nil))) (pa_cons (pe_lst (pa_cons pe_int pa_nil)) (pa_cons (pe_lst (pa_cons pe_int pa_nil)) pa_nil)))) pa_nil))) pa_nil)))))))
      (pss_one (ps_ret (pe_and (pe_cmpR op_eq (pe_callB (call_reprT gd hr.units) (by rfl) T.z_repr (by decide +kernel) (pa_cons (pv 2) pa_nil)) (pe_callB (call_reprT gd hr.units) (by rfl) T.z_repr (by decide +kernel) (pa_cons (pe_lst (pa_cons (pe_lst (pa_cons (pe_lst (pa_cons pe_int (pa_cons pe_int pa_nil))) (pa_cons (pe_lst (pa_cons pe_int pa_nil)) pa_nil))) (pa_cons (pe_lst (pa_cons (pe_lst pa_nil) pa_nil)) (pa_cons (pe_lst pa_nil) (pa_cons (pe_lst (pa_cons (pe_lst pa_nil) pa_nil)) (pa_cons (pe_lst (pa_cons (pe_lst (pa_cons pe_int pa_nil)) pa_nil)) pa_nil)))))) pa_nil)) (nomark _)) (pe_one (pe_cmpR (op_eqT hr.units) (pe_g G_crossing gd (hr.mono (by decide)) (by rfl) T.g_crossing T.F_crossing.kp T.b_crossing .nil pass0 (pa_cons pe_int (pa_cons (pe_lst (pa_cons (pe_lst (pa_cons pe_int (pa_cons pe_int pa_nil))) (pa_cons (pe_lst (pa_cons pe_int (pa_cons pe_int pa_nil))) (pa_cons (pe_lst (pa_cons pe_int (pa_cons pe_int pa_nil))) pa_nil)))) pa_nil))) (pe_g G_law_due gd (hr.mono (by decide)) (by rfl) T.g_law_due T.F_law_due.kp T.b_law_due .nil pass0 (pa_cons pe_int (pa_cons (pe_lst (pa_cons (pe_lst (pa_cons pe_int (pa_cons pe_int pa_nil))) (pa_cons (pe_lst (pa_cons pe_int (pa_cons pe_int pa_nil))) (pa_cons (pe_lst (pa_cons pe_int (pa_cons pe_int pa_nil))) pa_nil)))) pa_nil))) (nomark _)))))))), ?_⟩
    have sz1 : ∀ {n : Nat}, n ≤ 1000 → n ≤ sizeLine := fun {n} h => by rw [sizeLine_eq]; omega
    refine ⟨3, rfl, by decide, by decide, for_range (n := 3) (fun i σ H' => ∃ y : Option V, σ = [some (.ref a), y, none] ∧ SqL K H' a (ns.map V.int)) ⟨none, rfl, hS⟩ ?_ ?_⟩
    · rintro i σ H1 hi ⟨y, rfl, s1⟩
      refine ⟨_, rfl, _, rfl, a, ns, i, by rw [Int.zero_add]; rfl, by omega, s1, fun g H2 s t c e2 ng g2 go => ?_⟩
      refine ⟨g, t, _, rfl, ⟨s, c, g2, go⟩, by omega, fun H3 x3 => ⟨true, rfl, iteF ⟨_, rfl, (x3.same e2 ng).seq s1⟩⟩⟩
    · rintro σ H0 ⟨y, rfl, s1⟩
      clear s1
      dsimp only
      refine seqL (setL (lstC ?_))
      refine consC (callC (((Ev.elst (Eva.econs (Ev.elst (Eva.econs (Ev.eint 1) (Eva.econs (Ev.eint 2) Eva.enil))) (Eva.econs (Ev.elst (Eva.econs (Ev.eint 2) (Eva.econs (Ev.eint 3) Eva.enil))) Eva.enil))) : Ev Tr (Ed (.list [.list [.int 1, .int 2], .list [.int 2, .int 3]])) _ [some (.ref a), y, none]) H0 _ trivial ?_))
      rintro z1 J1 e1 d1
      refine ⟨z1, 4, [6, 12], rfl, (by rw [b1]; exact d1), by decide, by decide, by decide, fun R p1 qs H1 isR _ td1 => ?_⟩
      cases isR.eq x1
      have w1 := td1.dt
      have u1 := e1.trans td1.1
      clear td1 isR
      refine consC (callC (((Ev.elst Eva.enil) : Ev Tr (Ed (.list [])) _ [some (.ref a), y, none]) H1 _ trivial ?_))
      rintro z2 J2 e2 d2
      refine ⟨z2, 3, [], rfl, (by rw [b2]; exact d2), by decide, by decide, by decide, fun R p2 qs H2 isR _ td2 => ?_⟩
      cases isR.eq x2
      have w2 := td2.dt
      have u2 := e2.trans td2.1
      clear td2 isR
      have w1 := w1.to u2
      refine consC (callC (((Ev.elst (Eva.econs (Ev.elst Eva.enil) (Eva.econs (Ev.elst (Eva.econs (Ev.eint 1) Eva.enil)) Eva.enil))) : Ev Tr (Ed (.list [.list [], .list [.int 1]])) _ [some (.ref a), y, none]) H2 _ trivial ?_))
      rintro z3 J3 e3 d3
      refine ⟨z3, 3, [0, 2], rfl, (by rw [b3]; exact d3), by decide, by decide, by decide, fun R p3 qs H3 isR _ td3 => ?_⟩
      cases isR.eq x3
      have w3 := td3.dt
      have u3 := e3.trans td3.1
      clear td3 isR
      have w1 := w1.to u3
      have w2 := w2.to u3
      refine consC (callC (((Ev.elst Eva.enil) : Ev Tr (Ed (.list [])) _ [some (.ref a), y, none]) H3 _ trivial ?_))
      rintro z4 J4 e4 d4
      refine ⟨z4, 0, [], rfl, (by rw [b4]; exact d4), by decide, by decide, by decide, fun R p4 qs H4 isR _ td4 => ?_⟩
      cases isR.eq x4
      have w4 := td4.dt
      have u4 := e4.trans td4.1
      clear td4 isR
      have w1 := w1.to u4
      have w2 := w2.to u4
      have w3 := w3.to u4
      refine consC (callC (((Ev.elst (Eva.econs (Ev.elst (Eva.econs (Ev.eint 0) (Eva.econs (Ev.eint 7) Eva.enil))) (Eva.econs (Ev.elst (Eva.econs (Ev.eint 7) Eva.enil)) (Eva.econs (Ev.elst (Eva.econs (Ev.eint 7) Eva.enil)) Eva.enil)))) : Ev Tr (Ed (.list [.list [.int 0, .int 7], .list [.int 7], .list [.int 7]])) _ [some (.ref a), y, none]) H4 _ trivial ?_))
      rintro z5 J5 e5 d5
      refine ⟨z5, 8, [129, 128, 128], rfl, (by rw [b5]; exact d5), by decide, by decide, by decide, fun R p5 qs H5 isR _ td5 => ?_⟩
      cases isR.eq x5
      have w5 := td5.dt
      have u5 := e5.trans td5.1
      clear td5 isR
      have w1 := w1.to u5
      have w2 := w2.to u5
      have w3 := w3.to u5
      have w4 := w4.to u5
      refine ⟨sz1 (by show 5 ≤ 1000; decide), fun LT hL => ?_⟩
      have sL := same_new' (o := .lst [.ref p1, .ref p2, .ref p3, .ref p4, .ref p5]) hL
      have dT : Dt (upd H5 LT (.lst [.ref p1, .ref p2, .ref p3, .ref p4, .ref p5])) (.ref LT) (.list toldD) := .lst upd_same (.cons (w1.to sL) (.cons (w2.to sL) (.cons (w3.to sL) (.cons (w4.to sL) (.cons (w5.to sL) .nil)))))
      generalize (upd H5 LT (.lst [.ref p1, .ref p2, .ref p3, .ref p4, .ref p5])) = HB at dT
      clear sL hL w1 w2 w3 w4 w5 u1 u2 u3 u4 u5
      dsimp only [gName]
      refine ⟨_, rfl, .ref LT, .list toldD, rfl, dT, toldS, cbL (oneL (((Ev.elst (Eva.econs (Ev.elst (Eva.econs (Ev.elst (Eva.econs (Ev.eint 1) (Eva.econs (Ev.eint 3) Eva.enil))) (Eva.econs (Ev.elst (Eva.econs (Ev.eint 2) Eva.enil)) Eva.enil))) (Eva.econs (Ev.elst (Eva.econs (Ev.elst Eva.enil) Eva.enil)) (Eva.econs (Ev.elst Eva.enil) (Eva.econs (Ev.elst (Eva.econs (Ev.elst Eva.enil) Eva.enil)) (Eva.econs (Ev.elst (Eva.econs (Ev.elst (Eva.econs (Ev.eint 7) Eva.enil)) Eva.enil)) Eva.enil)))))) : Ev _ (Ed (.list [.list [.list [.int 1, .int 3], .list [.int 2]], .list [.list []], .list [], .list [.list []], .list [.list [.int 7]]])) _ [some (.ref a), y, some (.ref LT)]) HB _ trivial ?_))⟩
      rintro x HC eC dx
      refine ⟨x, .list toldD, rfl, dx, toldS, rfl, _, rfl, ?_⟩
      rw [veq]
      refine iteT ?_
      refine opL (callC (((Ev.elst (Eva.econs (Ev.elst (Eva.econs (Ev.eint 0) (Eva.econs (Ev.eint 1) Eva.enil))) (Eva.econs (Ev.elst (Eva.econs (Ev.eint 2) (Eva.econs (Ev.eint 3) Eva.enil))) (Eva.econs (Ev.elst (Eva.econs (Ev.eint 4) (Eva.econs (Ev.eint 5) Eva.enil))) Eva.enil)))) : Ev Tr (Ed (.list [.list [.int 0, .int 1], .list [.int 2, .int 3], .list [.int 4, .int 5]])) _ [some (.ref a), y, some (.ref LT)]) HC _ trivial ?_))
      rintro z6 J6 e6 d6
      refine ⟨z6, 8, [3, 12, 48], rfl, (by rw [b6]; exact d6), by decide, by decide, by decide, fun R p6 qs H6 isR lR td6 => ?_⟩
      refine callC (((Ev.elst (Eva.econs (Ev.elst (Eva.econs (Ev.eint 0) (Eva.econs (Ev.eint 1) Eva.enil))) (Eva.econs (Ev.elst (Eva.econs (Ev.eint 2) (Eva.econs (Ev.eint 3) Eva.enil))) (Eva.econs (Ev.elst (Eva.econs (Ev.eint 4) (Eva.econs (Ev.eint 5) Eva.enil))) Eva.enil)))) : Ev Tr (Ed (.list [.list [.int 0, .int 1], .list [.int 2, .int 3], .list [.int 4, .int 5]])) _ [some (.ref a), y, some (.ref LT)]) H6 _ trivial ?_)
      rintro z7 J7 e7 d7
      refine ⟨z7, 8, ([3, 12, 48] : List Nat).map (bitsN 8), rfl, (by rw [b6]; exact d7), by decide, few_all (by decide) _, by decide, fun L7 p7 H7 eL7 lL7 s7 d8 => ?_⟩
      cases isR.eq (due_is eL7 (by decide))
      have nice : Nice (lotsD (dueL L7 (([3, 12, 48] : List Nat).map (bitsN 8)))) := lots_shows (isX_few isR (by decide)) (by have : 2 ^ 8 = 256 := rfl; omega)
      refine ⟨_, _, td6.dt.to (e7.trans s7), d8, nice.shaped, nice.shaped, ?_⟩
      rw [nice.refl]
      exact q _

end

end K63

set_option Elab.async false
set_option linter.all false
set_option maxRecDepth 100000
set_option maxHeartbeats 0
/-! ### the end -/
namespace K63E
open PySem PySem.Spec PyProof.Rows L2 Hw K63
def d_is_whole : He.DefD := ⟨("is_whole", none), "is_whole", "is_whole", defArgs s_is_whole, defBody s_is_whole, defScope s_is_whole, [], []⟩
def d_is_count_to : He.DefD := ⟨("is_count_to", none), "is_count_to", "is_count_to", defArgs s_is_count_to, defBody s_is_count_to, defScope s_is_count_to, [], []⟩
def d_ascends : He.DefD := ⟨("ascends", none), "ascends", "ascends", defArgs s_ascends, defBody s_ascends, defScope s_ascends, [], []⟩
def d_mask_of : He.DefD := ⟨("mask_of", none), "mask_of", "mask_of", defArgs s_mask_of, defBody s_mask_of, defScope s_mask_of, [], []⟩
def d_stands_of : He.DefD := ⟨("stands_of", none), "stands_of", "stands_of", defArgs s_stands_of, defBody s_stands_of, defScope s_stands_of, [], []⟩
def d_crossing : He.DefD := ⟨("crossing", none), "crossing", "crossing", defArgs s_crossing, defBody s_crossing, defScope s_crossing, [], []⟩
def d_is_lot : He.DefD := ⟨("is_lot", none), "is_lot", "is_lot", defArgs s_is_lot, defBody s_is_lot, defScope s_is_lot, [], []⟩
def d_one_fewer : He.DefD := ⟨("one_fewer", none), "one_fewer", "one_fewer", defArgs s_one_fewer, defBody s_one_fewer, defScope s_one_fewer, [], []⟩
def d_least_masks : He.DefD := ⟨("least_masks", none), "least_masks", "least_masks", defArgs s_least_masks, defBody s_least_masks, defScope s_least_masks, [], []⟩
def d_lots_told : He.DefD := ⟨("lots_told", none), "lots_told", "lots_told", defArgs s_lots_told, defBody s_lots_told, defScope s_lots_told, [], []⟩
def d_law_hash : He.DefD := ⟨("_law_hash", none), "_law_hash", "_law_hash", defArgs s_law_hash, defBody s_law_hash, defScope s_law_hash, [], []⟩
def d_law_random : He.DefD := ⟨("_law_random", none), "_law_random", "_law_random", defArgs s_law_random, defBody s_law_random, defScope s_law_random, [], []⟩
def d_law_cell : He.DefD := ⟨("_law_cell", none), "_law_cell", "_law_cell", defArgs s_law_cell, defBody s_law_cell, defScope s_law_cell, [], []⟩
def d_law_generator : He.DefD := ⟨("_law_generator", none), "_law_generator", "_law_generator", defArgs s_law_generator, defBody s_law_generator, defScope s_law_generator, [], []⟩
def d_law_lots : He.DefD := ⟨("_law_lots", none), "_law_lots", "_law_lots", defArgs s_law_lots, defBody s_law_lots, defScope s_law_lots, [], []⟩
def d_law_inside : He.DefD := ⟨("_law_inside", none), "_law_inside", "_law_inside", defArgs s_law_inside, defBody s_law_inside, defScope s_law_inside, [], []⟩
def d_law_least : He.DefD := ⟨("_law_least", none), "_law_least", "_law_least", defArgs s_law_least, defBody s_law_least, defScope s_law_least, [], []⟩
def d_law_due : He.DefD := ⟨("_law_due", none), "_law_due", "_law_due", defArgs s_law_due, defBody s_law_due, defScope s_law_due, [], []⟩
def d_law_right : He.DefD := ⟨("_law_right", none), "_law_right", "_law_right", defArgs s_law_right, defBody s_law_right, defScope s_law_right, [], []⟩
def d_law : He.DefD := ⟨("law", none), "law", "law", defArgs s_law, defBody s_law, defScope s_law, [], []⟩
def fn : List He.DefD := [d_is_whole, d_is_count_to, d_ascends, d_mask_of, d_stands_of, d_crossing, d_is_lot, d_one_fewer, d_least_masks, d_lots_told, d_law_hash, d_law_random, d_law_cell, d_law_generator, d_law_lots, d_law_inside, d_law_least, d_law_due, d_law_right, d_law]
def fa : List He.Fa := [.glo "is_whole", .glo "is_count_to", .glo "ascends", .glo "mask_of", .glo "stands_of", .glo "crossing", .glo "is_lot", .glo "one_fewer", .glo "least_masks", .glo "lots_told", .glo "_law_hash", .glo "_law_random", .glo "_law_cell", .glo "_law_generator", .glo "_law_lots", .glo "_law_inside", .glo "_law_least", .glo "_law_due", .glo "_law_right", .glo "law", .free "all", .free "any", .free "bool", .free "enumerate", .free "int", .free "isinstance", .free "len", .free "list", .free "max", .free "range", .free "repr", .free "sorted", .free "sum", .free "zip", .int "MOST_CROSSED" 8]
abbrev R : PySem.W.OpenRow := PySem.W.OpenLaw.row PySem.Challenge.rw_howeverwide_k63_whole_crossing_lots
abbrev hk : PySem.W.Hook := He.hookD 4 fa fn
def ob (s : PySem.W.SharedT) : He.AlD := He.obsDG 4 fa fn (HandSHeadRun.getT s)
theorem ob_eq (s : PySem.W.SharedT) : ob s = hk.obs s.abs := He.obsDG_eq (HandSHeadRun.getT_eq s)
def loose0 : List PySem.Str := ["ClaimError", "InvalidNumber", "InvalidClaims", "is_whole", "is_count_to", "ascends", "mask_of", "stands_of", "MOST_CROSSED", "crossing", "is_lot", "one_fewer", "least_masks", "lots_told", "_law_hash", "_law_random", "_law_cell", "_law_generator", "_law_lots", "_law_inside"]
def loose1 : List PySem.Str := ["_law_least", "_law_due", "_law_right"]
def loose : List PySem.Str := loose0 ++ loose1
theorem run (w : World) : HandSHeadRun.RunEq R (PySem.W.view R.prog [28]) hk ob 4000 loose w := by
  intro os
  kernel_rfl
theorem facts {P : Program} {w : World} {K : PySem.W.Frag} {h : Heap} {mg : Str → Option Value} {f : Addr} (X : K.In h) (G : h.Ns mainGlobals mg) (hfa : mg ("law" : Str) = some (.ref f)) (c : He.SaysD fa fn K) :
    ∃ fd : FuncData, (∀ (s : Shared) (v : Value), BindsTo s fd ⟨[v], []⟩ [("_law_script", v)]) ∧ ∀ base : Heap, K.In base → base.Ns mainGlobals mg → FnG P w K mg base CX0 6 f fd ["_law_script"] (spLaw K) := by
  obtain ⟨e_is_whole, F_is_whole⟩ := c.def_ 0 (d := d_is_whole) rfl
  obtain ⟨e_is_count_to, F_is_count_to⟩ := c.def_ 1 (d := d_is_count_to) rfl
  obtain ⟨e_ascends, F_ascends⟩ := c.def_ 2 (d := d_ascends) rfl
  obtain ⟨e_mask_of, F_mask_of⟩ := c.def_ 3 (d := d_mask_of) rfl
  obtain ⟨e_stands_of, F_stands_of⟩ := c.def_ 4 (d := d_stands_of) rfl
  obtain ⟨e_crossing, F_crossing⟩ := c.def_ 5 (d := d_crossing) rfl
  obtain ⟨e_is_lot, F_is_lot⟩ := c.def_ 6 (d := d_is_lot) rfl
  obtain ⟨e_one_fewer, F_one_fewer⟩ := c.def_ 7 (d := d_one_fewer) rfl
  obtain ⟨e_least_masks, F_least_masks⟩ := c.def_ 8 (d := d_least_masks) rfl
  obtain ⟨e_lots_told, F_lots_told⟩ := c.def_ 9 (d := d_lots_told) rfl
  obtain ⟨e_law_hash, F_law_hash⟩ := c.def_ 10 (d := d_law_hash) rfl
  obtain ⟨e_law_random, F_law_random⟩ := c.def_ 11 (d := d_law_random) rfl
  obtain ⟨e_law_cell, F_law_cell⟩ := c.def_ 12 (d := d_law_cell) rfl
  obtain ⟨e_law_generator, F_law_generator⟩ := c.def_ 13 (d := d_law_generator) rfl
  obtain ⟨e_law_lots, F_law_lots⟩ := c.def_ 14 (d := d_law_lots) rfl
  obtain ⟨e_law_inside, F_law_inside⟩ := c.def_ 15 (d := d_law_inside) rfl
  obtain ⟨e_law_least, F_law_least⟩ := c.def_ 16 (d := d_law_least) rfl
  obtain ⟨e_law_due, F_law_due⟩ := c.def_ 17 (d := d_law_due) rfl
  obtain ⟨e_law_right, F_law_right⟩ := c.def_ 18 (d := d_law_right) rfl
  obtain ⟨e_law, F_law⟩ := c.def_ 19 (d := d_law) rfl
  have g_is_whole := He.glo_ok X G (c.fact 0 (f := .glo "is_whole") rfl)
  have g_is_count_to := He.glo_ok X G (c.fact 1 (f := .glo "is_count_to") rfl)
  have g_ascends := He.glo_ok X G (c.fact 2 (f := .glo "ascends") rfl)
  have g_mask_of := He.glo_ok X G (c.fact 3 (f := .glo "mask_of") rfl)
  have g_stands_of := He.glo_ok X G (c.fact 4 (f := .glo "stands_of") rfl)
  have g_crossing := He.glo_ok X G (c.fact 5 (f := .glo "crossing") rfl)
  have g_is_lot := He.glo_ok X G (c.fact 6 (f := .glo "is_lot") rfl)
  have g_one_fewer := He.glo_ok X G (c.fact 7 (f := .glo "one_fewer") rfl)
  have g_least_masks := He.glo_ok X G (c.fact 8 (f := .glo "least_masks") rfl)
  have g_lots_told := He.glo_ok X G (c.fact 9 (f := .glo "lots_told") rfl)
  have g_law_hash := He.glo_ok X G (c.fact 10 (f := .glo "_law_hash") rfl)
  have g_law_random := He.glo_ok X G (c.fact 11 (f := .glo "_law_random") rfl)
  have g_law_cell := He.glo_ok X G (c.fact 12 (f := .glo "_law_cell") rfl)
  have g_law_generator := He.glo_ok X G (c.fact 13 (f := .glo "_law_generator") rfl)
  have g_law_lots := He.glo_ok X G (c.fact 14 (f := .glo "_law_lots") rfl)
  have g_law_inside := He.glo_ok X G (c.fact 15 (f := .glo "_law_inside") rfl)
  have g_law_least := He.glo_ok X G (c.fact 16 (f := .glo "_law_least") rfl)
  have g_law_due := He.glo_ok X G (c.fact 17 (f := .glo "_law_due") rfl)
  have g_law_right := He.glo_ok X G (c.fact 18 (f := .glo "_law_right") rfl)
  have g_law := He.glo_ok X G (c.fact 19 (f := .glo "law") rfl)
  have i_MOST_CROSSED : ∃ u, mg "MOST_CROSSED" = some u ∧ RelV (.int 8) u := by
    obtain ⟨t, q⟩ := He.int_ok X G (c.fact 34 (f := .int "MOST_CROSSED" 8) rfl)
    exact ⟨_, q, t, rfl⟩
  have e := hfa.symm.trans g_law
  cases e
  let T : Tx K mg := { a_is_whole := _, d_is_whole := e_is_whole, F_is_whole := F_is_whole, g_is_whole := g_is_whole, a_is_count_to := _, d_is_count_to := e_is_count_to, F_is_count_to := F_is_count_to, g_is_count_to := g_is_count_to, a_ascends := _, d_ascends := e_ascends, F_ascends := F_ascends, g_ascends := g_ascends, a_mask_of := _, d_mask_of := e_mask_of, F_mask_of := F_mask_of, g_mask_of := g_mask_of, a_stands_of := _, d_stands_of := e_stands_of, F_stands_of := F_stands_of, g_stands_of := g_stands_of, a_crossing := _, d_crossing := e_crossing, F_crossing := F_crossing, g_crossing := g_crossing, a_is_lot := _, d_is_lot := e_is_lot, F_is_lot := F_is_lot, g_is_lot := g_is_lot, a_one_fewer := _, d_one_fewer := e_one_fewer, F_one_fewer := F_one_fewer, g_one_fewer := g_one_fewer, a_least_masks := _, d_least_masks := e_least_masks, F_least_masks := F_least_masks, g_least_masks := g_least_masks, a_lots_told := _, d_lots_told := e_lots_told, F_lots_told := F_lots_told, g_lots_told := g_lots_told, a_law_hash := _, d_law_hash := e_law_hash, F_law_hash := F_law_hash, g_law_hash := g_law_hash, a_law_random := _, d_law_random := e_law_random, F_law_random := F_law_random, g_law_random := g_law_random, a_law_cell := _, d_law_cell := e_law_cell, F_law_cell := F_law_cell, g_law_cell := g_law_cell, a_law_generator := _, d_law_generator := e_law_generator, F_law_generator := F_law_generator, g_law_generator := g_law_generator, a_law_lots := _, d_law_lots := e_law_lots, F_law_lots := F_law_lots, g_law_lots := g_law_lots, a_law_inside := _, d_law_inside := e_law_inside, F_law_inside := F_law_inside, g_law_inside := g_law_inside, a_law_least := _, d_law_least := e_law_least, F_law_least := F_law_least, g_law_least := g_law_least, a_law_due := _, d_law_due := e_law_due, F_law_due := F_law_due, g_law_due := g_law_due, a_law_right := _, d_law_right := e_law_right, F_law_right := F_law_right, g_law_right := g_law_right, a_law := _, d_law := e_law, F_law := F_law, g_law := g_law, z_all := He.free_ok X G (c.fact 20 (f := .free "all") rfl), z_any := He.free_ok X G (c.fact 21 (f := .free "any") rfl), z_bool := He.free_ok X G (c.fact 22 (f := .free "bool") rfl), z_enumerate := He.free_ok X G (c.fact 23 (f := .free "enumerate") rfl), z_int := He.free_ok X G (c.fact 24 (f := .free "int") rfl), z_isinstance := He.free_ok X G (c.fact 25 (f := .free "isinstance") rfl), z_len := He.free_ok X G (c.fact 26 (f := .free "len") rfl), z_list := He.free_ok X G (c.fact 27 (f := .free "list") rfl), z_max := He.free_ok X G (c.fact 28 (f := .free "max") rfl), z_range := He.free_ok X G (c.fact 29 (f := .free "range") rfl), z_repr := He.free_ok X G (c.fact 30 (f := .free "repr") rfl), z_sorted := He.free_ok X G (c.fact 31 (f := .free "sorted") rfl), z_sum := He.free_ok X G (c.fact 32 (f := .free "sum") rfl), z_zip := He.free_ok X G (c.fact 33 (f := .free "zip") rfl), c_MOST_CROSSED := i_MOST_CROSSED }
  have b := FunD.bindsA (ps := ["_law_script"]) F_law fun _ _ _ _ _ _ us hl => match us, hl with | [_], _ => rfl
  exact ⟨e_law, fun s v => b s [v] rfl, fun base _ _ => ok_law T⟩
end K63E
open PySem PySem.W PySem.Calls PyProof.Rows
set_option maxRecDepth 100000 in
set_option maxHeartbeats 0 in
theorem PySem.Challenge.cw_howeverwide_k63_whole_crossing_lots_holds : PySem.Challenge.rw_howeverwide_k63_whole_crossing_lots.Holds := by
  w_on; o_law
  refine HandSHeadRun.head_any (r := OpenLaw.row PySem.Challenge.rw_howeverwide_k63_whole_crossing_lots) (q := view (OpenLaw.row PySem.Challenge.rw_howeverwide_k63_whole_crossing_lots).prog [28]) (H := K63E.hk) (ob := K63E.ob) (M := 4000) (loose := K63E.loose) (d := HandSHeadRun.topDef (OpenLaw.row PySem.Challenge.rw_howeverwide_k63_whole_crossing_lots).prog 28) (kwd := []) K63E.ob_eq
    (by kernel_rfl) (fun s => by kernel_rfl) K63E.run (by kernel_rfl) (by kernel_rfl) (by kernel_rfl) (by rfl) (by first | assumption | decide +kernel) (by decide +kernel) ⟨rfl, rfl, rfl, rfl, rfl, by decide +kernel⟩ ?hw ?hc
  case hw => w_witness2
  case hc =>
    refine Hw.walkG (l := PySem.Challenge.rw_howeverwide_k63_whole_crossing_lots) (n := 63) (k := 6) (x := "_law_script") rfl (by decide) (by kernel_rfl) ⟨rfl, by decide, by decide⟩ ?F
    intro w mg fa h Y G hmg0
    obtain ⟨K, KX, c⟩ := Y
    have hmg : mg ("law" : PySem.Str) = some (.ref fa) := by
      have e : (HandSHeadRun.topDef (OpenLaw.row PySem.Challenge.rw_howeverwide_k63_whole_crossing_lots).prog 28).name = ("law" : PySem.Str) := by kernel_rfl
      rw [← e]
      exact hmg0
    obtain ⟨fd, hb, hF⟩ := K63E.facts (P := (PySem.Challenge.rw_howeverwide_k63_whole_crossing_lots).prog) (w := w) KX G hmg c
    exact ⟨K, fd, K63.spLaw K, KX, hb, fun H a ns hl _ hS => ⟨a, ns, rfl, hl, hS, fun _ => rfl⟩, hF⟩
